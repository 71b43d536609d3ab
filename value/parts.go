package value

import "cmp"

// bare tells whether there is nothing that a value's kind doesn't have.
func (v Value) bare() bool {
	switch v.Kind {
	case Number:
		v.Number = 0
	case Text:
		v.Text = ""
	case Message:
		v.Fields, v.Rest = nil, ""
	case List:
		v.List = nil
	case Map:
		v.Pairs = nil
	}
	return v.Number == 0 && v.Text == "" && len(v.Fields) == 0 && v.Rest == "" && len(v.List) == 0 && len(v.Pairs) == 0
}

// each hands out the values that stand in a value, also where its kind has none.
func (v Value) each(take func(part Value)) {
	for _, f := range v.Fields {
		take(f.Value)
	}
	for _, x := range v.List {
		take(x)
	}
	for _, p := range v.Pairs {
		take(p.Key)
		take(p.Value)
	}
}

// single tells whether a value is right, and one that may stand in a list or a map.
func (v Value) single() bool { return v.Kind >= Number && v.Kind <= Message && Right(v) }

// pairsRight tells whether a map's pairs are right.
func (v Value) pairsRight() bool {
	kind := v.Pairs[0].Key.Kind
	if kind != Number && kind != Text {
		return false
	}
	return all(v.Pairs, func(p Pair) bool { return p.Key.Kind == kind && p.right() }) && rises(v.Pairs, Pair.byKey)
}

func (f Field) right() bool { return fieldNumber(f.Number) && f.Value.Kind != None && Right(f.Value) }

func (f Field) byNumber(g Field) int { return cmp.Compare(f.Number, g.Number) }

func (f Field) compare(g Field) int {
	if order := f.byNumber(g); order != 0 {
		return order
	}
	return Compare(f.Value, g.Value)
}

func (p Pair) right() bool { return Right(p.Key) && p.Value.single() }

func (p Pair) byKey(q Pair) int { return Compare(p.Key, q.Key) }

func (p Pair) compare(q Pair) int {
	if order := p.byKey(q); order != 0 {
		return order
	}
	return Compare(p.Value, q.Value)
}
