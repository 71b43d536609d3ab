package edit

import (
	"maps"
	"math"
	"math/rand/v2"
	"slices"

	"redline/value"
)

// maker makes edits by chance, of few numbers and texts, so that many are the same, or nearly so.
type maker struct{ *rand.Rand }

func newMaker(seed uint64) *maker { return &maker{rand.New(rand.NewPCG(21, seed))} }

func pick[T any](m *maker, of ...T) T { return of[m.IntN(len(of))] }

func (m *maker) number() uint64 { return pick[uint64](m, 0, 1, 2, 1<<63, math.MaxUint64) }

func (m *maker) text() string { return pick(m, "", "a", "b", "ab", "\x00", "\xff", "B") }

func (m *maker) fieldNumber() int { return pick(m, 1, 2, 3, 536870910, 536870911) }

// part is a right value that may stand in a list.
func (m *maker) part(depth int) value.Value {
	switch {
	case depth > 0 && m.IntN(3) == 0:
		v := message(m.text())
		for range m.IntN(3) {
			v = value.With(v, m.fieldNumber(), m.value(depth-1))
		}
		return v
	case m.IntN(2) == 0:
		return num(m.number())
	}
	return str(m.text())
}

// value is a right value.
func (m *maker) value(depth int) value.Value {
	switch m.IntN(6) {
	case 0:
		return value.Value{}
	case 1:
		v := list(m.part(depth))
		for range m.IntN(3) {
			v.List = append(v.List, m.part(depth))
		}
		return v
	case 2:
		v, texts := value.Value{}, m.IntN(2) == 0
		for range 1 + m.IntN(3) {
			v = value.Put(v, m.key(texts), m.part(depth))
		}
		return v
	}
	return m.part(depth)
}

func (m *maker) key(texts bool) value.Value {
	if texts {
		return str(m.text())
	}
	return num(m.number())
}

// right is a right edit, that isn't Same if it changes something.
func (m *maker) right(depth int, changes bool) Edit {
	switch {
	case !changes && m.IntN(10) == 0:
		return Edit{}
	case depth == 0 || m.IntN(4) == 0:
		return m.swap()
	}
	switch m.IntN(3) {
	case 0:
		return m.into(depth)
	case 1:
		return Edit{Kind: Row, Steps: m.steps(depth)}
	}
	return Edit{Kind: Book, Keys: m.keys(depth)}
}

func (m *maker) swap() Edit {
	for {
		e := Edit{Kind: Swap, Old: m.value(2), New: m.value(2)}
		if !valueExact(e.Old, e.New) {
			return e
		}
	}
}

func (m *maker) into(depth int) Edit {
	e := Edit{Kind: Into, Fields: m.fields(depth)}
	if len(e.Fields) == 0 || m.IntN(3) == 0 {
		e.Rests, e.RestOld = true, m.text()
		e.RestNew = e.RestOld + "c"
	}
	return e
}

func (m *maker) fields(depth int) []Field {
	numbers := map[int]bool{}
	for range m.IntN(4) {
		numbers[m.fieldNumber()] = true
	}
	var fields []Field
	for _, n := range slices.Sorted(maps.Keys(numbers)) {
		fields = append(fields, Field{n, m.right(depth-1, true)})
	}
	return fields
}

// steps are right ones: each Keep, and each Drop behind a Put, is left out where it may not stand.
func (m *maker) steps(depth int) []Step {
	var steps []Step
	last := 0
	for range 1 + m.IntN(6) {
		s := m.step(depth)
		if s.Kind == 1 && last == 1 || s.Kind == 2 && last == 3 {
			continue
		}
		steps, last = append(steps, s), s.Kind
	}
	if len(steps) == 1 && last == 1 {
		steps = append(steps, Step{Kind: Put, Value: m.part(1)})
	}
	return steps
}

func (m *maker) step(depth int) Step {
	switch m.IntN(4) {
	case 0:
		return Step{Kind: Keep, Count: pick(m, 1, 2, 7, 1<<20)}
	case 1:
		return Step{Kind: Drop, Value: m.part(1)}
	case 2:
		return Step{Kind: Put, Value: m.part(1)}
	}
	return Step{Kind: Change, Edit: m.right(depth-1, true)}
}

func (m *maker) keys(depth int) []Key {
	texts := m.IntN(2) == 0
	var keys []Key
	for range 1 + m.IntN(3) {
		keys = append(keys, Key{m.key(texts), m.right(depth-1, true)})
	}
	slices.SortFunc(keys, func(k, l Key) int { return value.Compare(k.Key, l.Key) })
	return slices.CompactFunc(keys, func(k, l Key) bool { return valueExact(k.Key, l.Key) })
}

// wildValue is a value that may be wrong.
func (m *maker) wildValue() value.Value {
	if m.IntN(3) > 0 {
		return m.value(1)
	}
	return pick(m, wrongValues()...)
}

// anything is an edit with parts of all kinds, by chance.
func (m *maker) anything(depth int) Edit {
	e := Edit{Kind: pick(m, 0, 1, 2, 2, 3, 3, 4, 4, 5, -1, math.MinInt, math.MaxInt)}
	for range m.IntN(5) {
		switch m.IntN(7) {
		case 0:
			e.Old = m.wildValue()
		case 1:
			e.New = m.wildValue()
		case 2:
			e.Rests = m.IntN(2) == 0
		case 3:
			e.RestOld, e.RestNew = m.text(), m.text()
		case 4:
			for range m.IntN(3) {
				e.Fields = append(e.Fields, Field{pick(m, wildNumbers...), m.within(depth)})
			}
		case 5:
			e.Steps = append(e.Steps, m.wildSteps(depth)...)
		case 6:
			for range m.IntN(3) {
				e.Keys = append(e.Keys, Key{m.wildValue(), m.within(depth)})
			}
		}
	}
	return e
}

func (m *maker) wildSteps(depth int) []Step {
	var steps []Step
	for range m.IntN(6) {
		s := Step{Kind: pick(m, 1, 1, 2, 2, 3, 3, 4, 4, 0, 5, -1)}
		if m.IntN(2) == 0 {
			s.Count = pick(m, -1, 0, 1, 2, 1<<20, math.MinInt)
		}
		if m.IntN(2) == 0 {
			s.Value = m.wildValue()
		}
		if m.IntN(2) == 0 {
			s.Edit = m.within(depth)
		}
		steps = append(steps, s)
	}
	return steps
}

// within is what stands in an edit of a depth.
func (m *maker) within(depth int) Edit {
	switch {
	case depth == 0:
		return pick(m, Edit{}, Swapped(num(1), num(2)), Edit{Kind: Row}, Edit{Kind: 9})
	case m.IntN(2) == 0:
		return m.right(depth-1, false)
	}
	return m.anything(depth - 1)
}

// changed is an edit with one thing changed, in itself or in one of those within it, which shares nothing with the first one.
func (m *maker) changed(e Edit) Edit {
	e = modelCopy(e)
	m.change(&e)
	return e
}

func (m *maker) change(e *Edit) {
	var within []*Edit
	for i := range e.Fields {
		within = append(within, &e.Fields[i].Edit)
	}
	for i := range e.Steps {
		within = append(within, &e.Steps[i].Edit)
	}
	for i := range e.Keys {
		within = append(within, &e.Keys[i].Edit)
	}
	if len(within) > 0 && m.IntN(2) == 0 {
		m.change(pick(m, within...))
		return
	}
	switch m.IntN(9) {
	case 0:
		e.Kind = pick(m, wildNumbers...)
	case 1:
		e.Old = m.wildValue()
	case 2:
		e.New = m.wildValue()
	case 3:
		e.Rests = !e.Rests
	case 4:
		e.RestOld = m.text()
	case 5:
		e.RestNew = m.text()
	case 6:
		m.changeFields(e)
	case 7:
		m.changeSteps(e)
	case 8:
		m.changeKeys(e)
	}
}

func (m *maker) changeFields(e *Edit) {
	if len(e.Fields) > 0 && m.IntN(2) == 0 {
		e.Fields[m.IntN(len(e.Fields))].Number = pick(m, wildNumbers...)
		return
	}
	e.Fields = changedList(m, e.Fields, Field{m.fieldNumber(), m.right(1, false)})
}

func (m *maker) changeSteps(e *Edit) {
	if len(e.Steps) == 0 || m.IntN(2) == 0 {
		e.Steps = changedList(m, e.Steps, m.step(1))
		return
	}
	s := &e.Steps[m.IntN(len(e.Steps))]
	switch m.IntN(3) {
	case 0:
		s.Kind = pick(m, 0, 1, 2, 3, 4, 5, -1)
	case 1:
		s.Count = pick(m, wildNumbers...)
	case 2:
		s.Value = m.wildValue()
	}
}

func (m *maker) changeKeys(e *Edit) {
	if len(e.Keys) > 0 && m.IntN(2) == 0 {
		e.Keys[m.IntN(len(e.Keys))].Key = m.wildValue()
		return
	}
	e.Keys = changedList(m, e.Keys, Key{m.key(m.IntN(2) == 0), m.right(1, false)})
}

// changedList is a list with one more, or one less, or one in place of another, or two that change places.
func changedList[T any](m *maker, list []T, x T) []T {
	at := m.IntN(len(list) + 1)
	switch {
	case len(list) == 0 || m.IntN(4) == 0:
		return slices.Insert(list, at, x)
	case at == len(list):
		return list[:at-1]
	case m.IntN(3) == 0:
		return slices.Delete(list, at, at+1)
	case m.IntN(2) == 0:
		list[at] = x
		return list
	}
	other := m.IntN(len(list))
	list[at], list[other] = list[other], list[at]
	return list
}
