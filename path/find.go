package path

import (
	"cmp"
	"slices"

	"redline/value"
)

// finder is what finds that which steps of a kind lead to. No value tells its oneofs: nothing is found there.
func finder(kind int) func(s Step, v value.Value) (value.Value, bool) {
	switch kind {
	case Field:
		return Step.field
	case Key:
		return Step.pair
	case Index:
		return Step.element
	case Rest:
		return Step.rest
	case Span:
		return Step.span
	}
	return Step.nothing
}

func (s Step) nothing(value.Value) (value.Value, bool) { return value.Value{}, false }

func (s Step) field(v value.Value) (value.Value, bool) {
	at := s.fieldAt(v)
	if at < 0 {
		return s.nothing(v)
	}
	return there(v.Fields[at].Value)
}

func (s Step) pair(v value.Value) (value.Value, bool) {
	at := s.pairAt(v)
	if at < 0 {
		return s.nothing(v)
	}
	return there(v.Pairs[at].Value)
}

func (s Step) element(v value.Value) (value.Value, bool) {
	if v.Kind != value.List || s.Number < 0 || s.Number >= len(v.List) {
		return s.nothing(v)
	}
	return there(v.List[s.Number])
}

func (s Step) rest(v value.Value) (value.Value, bool) {
	if v.Kind != value.Message {
		return s.nothing(v)
	}
	return value.Str(v.Rest), true
}

func (s Step) span(v value.Value) (value.Value, bool) {
	if v.Kind != value.List || s.Number < 0 || s.Number > s.To || s.To > len(v.List) {
		return s.nothing(v)
	}
	if s.Number == s.To {
		return value.Value{}, true
	}
	return value.Value{Kind: value.List, List: v.List[s.Number:s.To:s.To]}, true
}

// there is a value, and whether it is one.
func there(v value.Value) (value.Value, bool) {
	if v.Kind == value.None {
		return value.Value{}, false
	}
	return v, true
}

// fieldAt is at which place in a message the step's field stands, or -1.
func (s Step) fieldAt(v value.Value) int {
	if v.Kind != value.Message {
		return -1
	}
	return place(v.Fields, func(f value.Field) int { return cmp.Compare(f.Number, s.Number) })
}

// pairAt is at which place in a map the step's key stands, or -1.
func (s Step) pairAt(v value.Value) int {
	if v.Kind != value.Map {
		return -1
	}
	return place(v.Pairs, func(p value.Pair) int { return value.Compare(p.Key, s.Key) })
}

// place is where in a list that stands of which the comparison is 0, or -1. The lists of a value that isn't right may stand in any order: what isn't met as in one that rises is looked for one by one.
func place[T any](list []T, compare func(x T) int) int {
	at, is := slices.BinarySearchFunc(list, 0, func(x T, _ int) int { return compare(x) })
	if is {
		return at
	}
	return slices.IndexFunc(list, func(x T) bool { return compare(x) == 0 })
}

// each hands on all that stands in a value, with the step to it. In a value that isn't right two may have one step: only that one counts which the step finds.
func each(v value.Value, do func(s Step, part value.Value)) {
	switch v.Kind {
	case value.Message:
		for i, f := range v.Fields {
			if s := (Step{Kind: Field, Number: f.Number}); s.fieldAt(v) == i {
				do(s, f.Value)
			}
		}
	case value.List:
		for i, x := range v.List {
			do(Step{Kind: Index, Number: i}, x)
		}
	case value.Map:
		for i, p := range v.Pairs {
			if s := (Step{Kind: Key, Key: p.Key}); s.pairAt(v) == i {
				do(s, p.Value)
			}
		}
	}
}
