package value

import (
	"maps"
	"math"
	"math/rand/v2"
	"slices"
)

// maker makes values by chance, of few numbers and texts, so that many are the same, or nearly so.
type maker struct{ *rand.Rand }

func newMaker(seed uint64) *maker { return &maker{rand.New(rand.NewPCG(13, seed))} }

func pick[T any](m *maker, of ...T) T { return of[m.IntN(len(of))] }

func (m *maker) number() uint64 {
	return pick[uint64](m, 0, 1, 2, 7, 1<<63-1, 1<<63, math.MaxUint64)
}

func (m *maker) text() string {
	return pick(m, "", "", "a", "b", "ab", "a\x00", "\x00", "\x7f", "\x80", "\xff", "aa", "B")
}

func (m *maker) fieldNumber() int { return pick(m, 1, 2, 3, 9, 15, 16, 536870910, 536870911) }

// part is a right value that may stand in a list.
func (m *maker) part(depth int) Value {
	switch {
	case depth > 0 && m.IntN(2) == 0:
		return m.message(depth)
	case m.IntN(2) == 0:
		return Num(m.number())
	}
	return Str(m.text())
}

func (m *maker) message(depth int) Value {
	v := Value{Kind: Message, Rest: m.text()}
	numbers := map[int]bool{}
	for range m.IntN(4) {
		numbers[m.fieldNumber()] = true
	}
	for _, n := range slices.Sorted(maps.Keys(numbers)) {
		v.Fields = append(v.Fields, Field{n, m.filled(depth - 1)})
	}
	return v
}

func (m *maker) list(depth int) Value {
	v := Value{Kind: List}
	for range 1 + m.IntN(3) {
		v.List = append(v.List, m.part(depth))
	}
	return v
}

func (m *maker) table(depth int) Value {
	v := Value{Kind: Map}
	texts := m.IntN(2) == 0
	for range 1 + m.IntN(4) {
		key := Num(m.number())
		if texts {
			key = Str(m.text())
		}
		v.Pairs = append(v.Pairs, Pair{Key: key, Value: m.part(depth)})
	}
	slices.SortFunc(v.Pairs, func(p, q Pair) int { return modelCompare(p.Key, q.Key) })
	v.Pairs = slices.CompactFunc(v.Pairs, func(p, q Pair) bool { return modelExact(p.Key, q.Key) })
	return v
}

// filled is a right value that isn't None.
func (m *maker) filled(depth int) Value {
	switch m.IntN(4) {
	case 0:
		return m.list(depth)
	case 1:
		return m.table(depth)
	}
	return m.part(depth)
}

// right is a right value.
func (m *maker) right(depth int) Value {
	switch m.IntN(12) {
	case 0:
		return Value{}
	case 1, 2, 3, 4:
		return m.message(depth)
	}
	return m.filled(depth)
}

// anything is a value with parts of all kinds, by chance.
func (m *maker) anything(depth int) Value {
	v := Value{Kind: pick(m, 0, 1, 2, 3, 3, 4, 5, 5, 6, -1, math.MinInt, math.MaxInt)}
	for range m.IntN(4) {
		switch m.IntN(6) {
		case 0:
			v.Number = m.number()
		case 1:
			v.Text = m.text()
		case 2:
			v.Rest = m.text()
		case 3:
			for range m.IntN(4) {
				v.Fields = append(v.Fields, Field{pick(m, 0, 1, 2, 3, -1, math.MinInt, math.MaxInt, 536870912), m.within(depth)})
			}
		case 4:
			for range m.IntN(4) {
				v.List = append(v.List, m.within(depth))
			}
		case 5:
			for range m.IntN(4) {
				v.Pairs = append(v.Pairs, Pair{m.within(depth), m.within(depth)})
			}
		}
	}
	return v
}

// within is what stands in a value of a depth.
func (m *maker) within(depth int) Value {
	switch {
	case depth == 0:
		return pick(m, Value{}, Num(1), Str("a"), Value{Kind: Message})
	case m.IntN(2) == 0:
		return m.right(depth - 1)
	}
	return m.anything(depth - 1)
}

// changed is a value with one thing changed, in itself or in one of those within it, which shares nothing with the first one.
func (m *maker) changed(v Value) Value {
	v = modelCopy(v)
	m.change(&v)
	return v
}

func (m *maker) change(v *Value) {
	var within []*Value
	for i := range v.Fields {
		within = append(within, &v.Fields[i].Value)
	}
	for i := range v.List {
		within = append(within, &v.List[i])
	}
	for i := range v.Pairs {
		within = append(within, &v.Pairs[i].Key, &v.Pairs[i].Value)
	}
	if len(within) > 0 && m.IntN(2) == 0 {
		m.change(pick(m, within...))
		return
	}
	switch m.IntN(9) {
	case 0:
		v.Kind = pick(m, -1, 0, 1, 2, 3, 4, 5, 6)
	case 1:
		v.Number = m.number()
	case 2:
		v.Text = m.text()
	case 3:
		v.Rest = m.text()
	case 4:
		m.changeFields(v)
	case 5:
		v.List = changedList(m, v.List, m.within(1))
	case 6:
		v.Pairs = changedList(m, v.Pairs, Pair{m.within(0), m.within(1)})
	default: // the part that the kind has is changed more often
		m.changeOwn(v)
	}
}

func (m *maker) changeOwn(v *Value) {
	switch v.Kind {
	case 1:
		v.Number = m.number()
	case 2:
		v.Text = m.text()
	case 3:
		m.changeFields(v)
	case 4:
		v.List = changedList(m, v.List, m.part(1))
	case 5:
		v.Pairs = changedList(m, v.Pairs, Pair{pick(m, Num(m.number()), Str(m.text())), m.part(1)})
	}
}

func (m *maker) changeFields(v *Value) {
	if len(v.Fields) > 0 && m.IntN(2) == 0 {
		v.Fields[m.IntN(len(v.Fields))].Number = pick(m, 0, -1, 1, 2, 3, 4, 20, 536870911, 536870912, math.MaxInt)
		return
	}
	v.Fields = changedList(m, v.Fields, Field{m.fieldNumber(), m.within(1)})
}

// changedList is a list with one more, or one less, or one in place of another, or two that change places.
func changedList[T any](m *maker, list []T, x T) []T {
	at := m.IntN(len(list) + 1)
	switch {
	case len(list) == 0 || m.IntN(4) == 0:
		return slices.Insert(list, at, x)
	case at == len(list):
		return list[:at-1]
	case m.IntN(3) == 0:
		return slices.Delete(list, at, at+1)
	case m.IntN(2) == 0:
		list[at] = x
		return list
	}
	other := m.IntN(len(list))
	list[at], list[other] = list[other], list[at]
	return list
}
