package invert

import (
	"maps"
	"math"
	"math/rand/v2"
	"slices"

	"redline/edit"
	"redline/value"
)

// maker makes edits by chance, of few numbers and texts, so that many are the same, or nearly so.
type maker struct{ *rand.Rand }

func newMaker(seed uint64) *maker { return &maker{rand.New(rand.NewPCG(22, seed))} }

func pick[T any](m *maker, of ...T) T { return of[m.IntN(len(of))] }

func (m *maker) number() uint64 { return pick[uint64](m, 0, 1, 2, 1<<63, math.MaxUint64) }

func (m *maker) text() string { return pick(m, "", "a", "b", "ab", "\x00", "\xff", "B") }

func (m *maker) fieldNumber() int { return pick(m, 1, 2, 3, 536870910, 536870911) }

// part is a right value that may stand in a list.
func (m *maker) part(depth int) value.Value {
	switch {
	case depth > 0 && m.IntN(3) == 0:
		v := message(m.text())
		for range m.IntN(3) {
			v = value.With(v, m.fieldNumber(), m.value(depth-1))
		}
		return v
	case m.IntN(2) == 0:
		return num(m.number())
	}
	return str(m.text())
}

// value is a right value.
func (m *maker) value(depth int) value.Value {
	switch m.IntN(6) {
	case 0:
		return value.Value{}
	case 1:
		v := list(m.part(depth))
		for range m.IntN(3) {
			v.List = append(v.List, m.part(depth))
		}
		return v
	case 2:
		v, texts := value.Value{}, m.IntN(2) == 0
		for range 1 + m.IntN(3) {
			v = value.Put(v, m.key(texts), m.part(depth))
		}
		return v
	}
	return m.part(depth)
}

func (m *maker) key(texts bool) value.Value {
	if texts {
		return str(m.text())
	}
	return num(m.number())
}

// right is a right edit, that isn't Same if it changes something.
func (m *maker) right(depth int, changes bool) edit.Edit {
	switch {
	case !changes && m.IntN(10) == 0:
		return edit.Edit{}
	case depth == 0 || m.IntN(4) == 0:
		return m.swap()
	}
	switch m.IntN(3) {
	case 0:
		return m.into(depth)
	case 1:
		return row(m.steps(depth)...)
	}
	return book(m.keys(depth)...)
}

func (m *maker) swap() edit.Edit {
	for {
		if old, new := m.value(2), m.value(2); !value.Same(old, new) {
			return swap(old, new)
		}
	}
}

func (m *maker) into(depth int) edit.Edit {
	e := into(m.fields(depth)...)
	if len(e.Fields) == 0 || m.IntN(3) == 0 {
		e.Rests, e.RestOld, e.RestNew = true, m.text(), m.text()
		if e.RestOld == e.RestNew {
			e.RestNew += "c"
		}
	}
	return e
}

func (m *maker) fields(depth int) []edit.Field {
	numbers := map[int]bool{}
	for range m.IntN(4) {
		numbers[m.fieldNumber()] = true
	}
	var fields []edit.Field
	for _, n := range slices.Sorted(maps.Keys(numbers)) {
		fields = append(fields, edit.Field{Number: n, Edit: m.right(depth-1, true)})
	}
	return fields
}

// steps are right ones: each Keep, and each Drop behind a Put, is left out where it may not stand.
func (m *maker) steps(depth int) []edit.Step {
	var steps []edit.Step
	last := 0
	for range 1 + m.IntN(8) {
		s := m.step(depth)
		if s.Kind == 1 && last == 1 || s.Kind == 2 && last == 3 {
			continue
		}
		steps, last = append(steps, s), s.Kind
	}
	if len(steps) == 1 && last == 1 {
		steps = append(steps, put(m.part(1)))
	}
	return steps
}

func (m *maker) step(depth int) edit.Step {
	switch m.IntN(6) {
	case 0:
		return kept(pick(m, 1, 2, 7, 1<<20))
	case 1, 2:
		return drop(m.part(1))
	case 3, 4:
		return put(m.part(1))
	}
	return change(m.right(depth-1, true))
}

func (m *maker) keys(depth int) []edit.Key {
	texts := m.IntN(2) == 0
	var keys []edit.Key
	for range 1 + m.IntN(3) {
		keys = append(keys, edit.Key{Key: m.key(texts), Edit: m.right(depth-1, true)})
	}
	slices.SortFunc(keys, func(k, l edit.Key) int { return value.Compare(k.Key, l.Key) })
	return slices.CompactFunc(keys, func(k, l edit.Key) bool { return value.Same(k.Key, l.Key) })
}

// wildValue is a value that may be wrong.
func (m *maker) wildValue() value.Value {
	if m.IntN(3) > 0 {
		return m.value(1)
	}
	return pick(m, value.Value{Kind: -1}, value.Value{Kind: 6}, value.Value{Kind: math.MaxInt}, value.Value{Text: "a"}, list(), list(list(num(1))), value.Value{Kind: value.Number, Pairs: []value.Pair{{}}}, message("", value.Field{Number: -1}))
}

// wildNumbers are numbers of which few mean anything.
var wildNumbers = []int{math.MinInt, -1, 0, 1, 2, 3, 4, 5, 1 << 20, 1<<29 - 1, 1 << 29, math.MaxInt}

// anything is an edit with parts of all kinds, by chance.
func (m *maker) anything(depth int) edit.Edit {
	e := edit.Edit{Kind: pick(m, 0, 1, 2, 2, 3, 3, 4, 4, 5, -1, math.MinInt, math.MaxInt)}
	for range m.IntN(5) {
		switch m.IntN(6) {
		case 0:
			e.Old, e.New = m.wildValue(), m.wildValue()
		case 1:
			e.Rests = m.IntN(2) == 0
		case 2:
			e.RestOld, e.RestNew = m.text(), m.text()
		case 3:
			for range m.IntN(3) {
				e.Fields = append(e.Fields, edit.Field{Number: pick(m, wildNumbers...), Edit: m.within(depth)})
			}
		case 4:
			e.Steps = append(e.Steps, m.wildSteps(depth)...)
		case 5:
			for range m.IntN(3) {
				e.Keys = append(e.Keys, edit.Key{Key: m.wildValue(), Edit: m.within(depth)})
			}
		}
	}
	return e
}

func (m *maker) wildSteps(depth int) []edit.Step {
	var steps []edit.Step
	for range m.IntN(6) {
		s := edit.Step{Kind: pick(m, 1, 1, 2, 2, 3, 3, 4, 4, 0, 5, -1)}
		if m.IntN(2) == 0 {
			s.Count = pick(m, -1, 0, 1, 2, 1<<20, math.MinInt)
		}
		if m.IntN(2) == 0 {
			s.Value = m.wildValue()
		}
		if m.IntN(2) == 0 {
			s.Edit = m.within(depth)
		}
		steps = append(steps, s)
	}
	return steps
}

// within is what stands in an edit of a depth.
func (m *maker) within(depth int) edit.Edit {
	switch {
	case depth == 0:
		return pick(m, edit.Edit{}, other(), row(), edit.Edit{Kind: 9})
	case m.IntN(2) == 0:
		return m.right(depth-1, false)
	}
	return m.anything(depth - 1)
}
