package value

import (
	"bytes"
	"encoding/binary"
	"maps"
	"slices"
)

// The models are the chapter's words, told in another way than the program tells them. Kinds stand as numbers here.

// modelHas is which parts the kinds have.
type modelHas struct{ number, text, fields, rest, list, pairs bool }

var modelKinds = map[int]modelHas{
	0: {},
	1: {number: true},
	2: {text: true},
	3: {fields: true, rest: true},
	4: {list: true},
	5: {pairs: true},
}

// modelClean tells whether a value has nothing that its kind doesn't have (not asked of those within it).
func modelClean(v Value) bool {
	has := modelKinds[v.Kind]
	return (has.number || v.Number == 0) && (has.text || v.Text == "") &&
		(has.fields || len(v.Fields) == 0) && (has.rest || v.Rest == "") &&
		(has.list || len(v.List) == 0) && (has.pairs || len(v.Pairs) == 0)
}

func modelRight(v Value) bool {
	if _, is := modelKinds[v.Kind]; !is || !modelClean(v) {
		return false
	}
	switch v.Kind {
	case 3:
		last := 0
		for _, f := range v.Fields {
			if f.Number <= last || f.Number > 536870911 || f.Value.Kind == 0 || !modelRight(f.Value) {
				return false
			}
			last = f.Number
		}
	case 4:
		return len(v.List) >= 1 && !slices.ContainsFunc(v.List, modelNoPart)
	case 5:
		return modelPairsRight(v.Pairs)
	}
	return true
}

func modelNoPart(v Value) bool {
	return v.Kind != 1 && v.Kind != 2 && v.Kind != 3 || !modelRight(v)
}

// modelPairsRight holds the keys against those that are put in order, each one once.
func modelPairsRight(pairs []Pair) bool {
	var numbers []uint64
	var texts []string
	for _, p := range pairs {
		if !modelRight(p.Key) || modelNoPart(p.Value) {
			return false
		}
		switch p.Key.Kind {
		case 1:
			numbers = append(numbers, p.Key.Number)
		case 2:
			texts = append(texts, p.Key.Text)
		default:
			return false
		}
	}
	if len(numbers) > 0 && len(texts) > 0 || len(pairs) == 0 {
		return false
	}
	return slices.Equal(numbers, slices.Compact(slices.Sorted(slices.Values(numbers)))) &&
		slices.Equal(texts, slices.Compact(slices.Sorted(slices.Values(texts))))
}

// modelRow is bytes whose order is that of the values: each member of a row stands behind a 1, and the row's end is a 0.
func modelRow(v Value) []byte {
	b := modelInt(v.Kind)
	switch v.Kind {
	case 1:
		b = binary.BigEndian.AppendUint64(b, v.Number)
	case 2:
		b = append(b, modelTextRow(v.Text)...)
	case 3:
		for _, f := range v.Fields {
			b = append(append(append(b, 1), modelInt(f.Number)...), modelRow(f.Value)...)
		}
		b = append(append(b, 0), modelTextRow(v.Rest)...)
	case 4:
		for _, x := range v.List {
			b = append(append(b, 1), modelRow(x)...)
		}
		b = append(b, 0)
	case 5:
		for _, p := range v.Pairs {
			b = append(append(append(b, 1), modelRow(p.Key)...), modelRow(p.Value)...)
		}
		b = append(b, 0)
	}
	return b
}

func modelInt(n int) []byte { return binary.BigEndian.AppendUint64(nil, uint64(n)^1<<63) }

func modelTextRow(s string) []byte {
	var b []byte
	for i := range len(s) {
		b = append(b, 1, s[i])
	}
	return append(b, 0)
}

func modelCompare(a, b Value) int { return bytes.Compare(modelRow(a), modelRow(b)) }

// modelParts is the values that stand directly in one.
func modelParts(v Value) []Value {
	parts := slices.Clone(v.List)
	for _, f := range v.Fields {
		parts = append(parts, f.Value)
	}
	for _, p := range v.Pairs {
		parts = append(parts, p.Key, p.Value)
	}
	return parts
}

func modelSize(v Value) int {
	size := 0
	for left := []Value{v}; len(left) > 0; {
		at := left[0]
		left = left[1:]
		if at.Kind != 0 {
			size++
			left = append(left, modelParts(at)...)
		}
	}
	return size
}

func modelDepth(v Value) int {
	most := 0
	var walk func(at Value, around int)
	walk = func(at Value, around int) {
		if at.Kind == 3 {
			around++
		}
		if around > most {
			most = around
		}
		for _, part := range modelParts(at) {
			walk(part, around)
		}
	}
	walk(v, 0)
	return most
}

func modelGet(v Value, number int) Value {
	if v.Kind == 3 {
		for _, f := range v.Fields {
			if f.Number == number {
				return f.Value
			}
		}
	}
	return Value{}
}

func modelWith(v Value, number int, x Value) Value {
	if v.Kind != 3 || number < 1 || number > 536870911 {
		return v
	}
	of := map[int]Value{number: x}
	for _, f := range v.Fields {
		if f.Number != number {
			of[f.Number] = f.Value
		}
	}
	maps.DeleteFunc(of, func(_ int, x Value) bool { return x.Kind == 0 })
	with := Value{Kind: 3, Rest: v.Rest}
	for _, n := range slices.Sorted(maps.Keys(of)) {
		with.Fields = append(with.Fields, Field{n, of[n]})
	}
	return with
}

func modelFind(v, key Value) Value {
	if v.Kind == 5 {
		for _, p := range v.Pairs {
			if modelExact(p.Key, key) {
				return p.Value
			}
		}
	}
	return Value{}
}

func modelPut(v, key, x Value) Value {
	if v.Kind != 0 && v.Kind != 5 {
		return v
	}
	pairs := []Pair{{key, x}}
	for _, p := range v.Pairs {
		if !modelExact(p.Key, key) {
			pairs = append(pairs, p)
		}
	}
	pairs = slices.DeleteFunc(pairs, func(p Pair) bool { return p.Value.Kind == 0 })
	slices.SortFunc(pairs, func(p, q Pair) int { return modelCompare(p.Key, q.Key) })
	if len(pairs) == 0 {
		return Value{}
	}
	return Value{Kind: 5, Pairs: pairs}
}

// modelExact tells whether two values are so all over, also in what their kinds don't have.
func modelExact(a, b Value) bool {
	return a.Kind == b.Kind && a.Number == b.Number && a.Text == b.Text && a.Rest == b.Rest &&
		slices.EqualFunc(a.Fields, b.Fields, func(f, g Field) bool { return f.Number == g.Number && modelExact(f.Value, g.Value) }) &&
		slices.EqualFunc(a.List, b.List, modelExact) &&
		slices.EqualFunc(a.Pairs, b.Pairs, func(p, q Pair) bool { return modelExact(p.Key, q.Key) && modelExact(p.Value, q.Value) })
}

// modelCopy shares nothing with a value: empty lists become nil, and nil ones empty, which is the same.
func modelCopy(v Value) Value {
	c := Value{Kind: v.Kind, Number: v.Number, Text: v.Text, Rest: v.Rest}
	if v.Fields == nil {
		c.Fields = []Field{}
	}
	if v.List == nil {
		c.List = []Value{}
	}
	if v.Pairs == nil {
		c.Pairs = []Pair{}
	}
	for _, f := range v.Fields {
		c.Fields = append(c.Fields, Field{f.Number, modelCopy(f.Value)})
	}
	for _, x := range v.List {
		c.List = append(c.List, modelCopy(x))
	}
	for _, p := range v.Pairs {
		c.Pairs = append(c.Pairs, Pair{modelCopy(p.Key), modelCopy(p.Value)})
	}
	return c
}
