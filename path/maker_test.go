package path

import (
	"math"
	"math/rand/v2"
	"slices"
	"strings"

	"redline/value"
)

func empty() value.Value { return value.Value{Kind: value.Message} }

func message(rest string, fields ...value.Field) value.Value {
	return value.Value{Kind: value.Message, Fields: fields, Rest: rest}
}

func at(number int, v value.Value) value.Field { return value.Field{Number: number, Value: v} }

func list(values ...value.Value) value.Value { return value.Value{Kind: value.List, List: values} }

func table(pairs ...value.Pair) value.Value { return value.Value{Kind: value.Map, Pairs: pairs} }

func pair(key, v value.Value) value.Pair { return value.Pair{Key: key, Value: v} }

func field(number int) Step { return Step{Kind: 1, Number: number} }

func key(k value.Value) Step { return Step{Kind: 2, Key: k} }

func index(number int) Step { return Step{Kind: 3, Number: number} }

func rest() Step { return Step{Kind: 4} }

func span(from, to int) Step { return Step{Kind: 5, Number: from, To: to} }

func oneof(number int) Step { return Step{Kind: 6, Number: number} }

// maker makes values and paths by chance, of few numbers and texts, so that the ones often fit the others.
type maker struct{ *rand.Rand }

func newMaker(seed uint64) *maker { return &maker{rand.New(rand.NewPCG(17, seed))} }

func pick[T any](m *maker, of ...T) T { return of[m.IntN(len(of))] }

func (m *maker) key(texts bool) value.Value {
	if texts {
		return value.Str(pick(m, "", "a", "b", "ab", "\x00", "\xff", "'}", "aa"))
	}
	return value.Num(pick[uint64](m, 0, 1, 2, 10, 1<<63, math.MaxUint64))
}

// part is a right value that may stand in a list.
func (m *maker) part(depth int) value.Value {
	switch {
	case depth > 0 && m.IntN(3) > 0:
		return m.message(depth)
	case m.IntN(2) == 0:
		return m.key(true)
	}
	return m.key(false)
}

func (m *maker) message(depth int) value.Value {
	v := message(pick(m, "", "", "r"))
	for _, n := range []int{1, 2, 3, 15, 536870911} {
		if m.IntN(3) == 0 {
			v.Fields = append(v.Fields, at(n, m.right(depth-1)))
		}
	}
	return v
}

func (m *maker) list(depth int) value.Value {
	v := list()
	for range 1 + m.IntN(4) {
		v.List = append(v.List, m.part(depth))
	}
	return v
}

func (m *maker) table(depth int) value.Value {
	v := table()
	texts := m.IntN(2) == 0
	for range 1 + m.IntN(4) {
		v.Pairs = append(v.Pairs, pair(m.key(texts), m.part(depth)))
	}
	slices.SortFunc(v.Pairs, func(p, q value.Pair) int { return value.Compare(p.Key, q.Key) })
	v.Pairs = slices.CompactFunc(v.Pairs, func(p, q value.Pair) bool { return value.Same(p.Key, q.Key) })
	return v
}

// right is a right value that isn't None.
func (m *maker) right(depth int) value.Value {
	switch m.IntN(5) {
	case 0:
		return m.list(depth)
	case 1:
		return m.table(depth)
	}
	return m.part(depth)
}

// anything is a value with parts of all kinds, by chance.
func (m *maker) anything(depth int) value.Value {
	v := value.Value{Kind: pick(m, 0, 1, 2, 3, 3, 3, 4, 4, 5, 5, 5, 6, -1, math.MinInt, math.MaxInt)}
	if m.IntN(4) == 0 {
		v.Number, v.Text, v.Rest = 7, "t", "r"
	}
	if depth == 0 {
		return v
	}
	for range m.IntN(5) {
		within := m.anything(depth - 1)
		switch m.IntN(3) {
		case 0:
			v.Fields = append(v.Fields, at(pick(m, 0, 1, 2, 3, -1, math.MinInt, math.MaxInt, 536870912), within))
		case 1:
			v.List = append(v.List, within)
		case 2:
			v.Pairs = append(v.Pairs, pair(pick(m, m.key(true), m.key(false), m.anything(0), m.anything(depth-1)), within))
		}
	}
	return v
}

// shuffled is a value whose fields and pairs stand in another order, at all depths.
func (m *maker) shuffled(v value.Value) value.Value {
	v.Fields, v.List, v.Pairs = slices.Clone(v.Fields), slices.Clone(v.List), slices.Clone(v.Pairs)
	for i, f := range v.Fields {
		v.Fields[i].Value = m.shuffled(f.Value)
	}
	for i, x := range v.List {
		v.List[i] = m.shuffled(x)
	}
	for i, p := range v.Pairs {
		v.Pairs[i].Value = m.shuffled(p.Value)
	}
	m.Shuffle(len(v.Fields), func(i, j int) { v.Fields[i], v.Fields[j] = v.Fields[j], v.Fields[i] })
	m.Shuffle(len(v.Pairs), func(i, j int) { v.Pairs[i], v.Pairs[j] = v.Pairs[j], v.Pairs[i] })
	return v
}

func (m *maker) number() int {
	return pick(m, 0, 0, 1, 1, 2, 3, 4, 9, 10, 536870911, 1<<30-1, 1<<30, m.IntN(1<<30))
}

// step is a right step.
func (m *maker) step() Step {
	switch m.IntN(6) {
	case 0:
		return field(pick(m, 1, 2, 3, 15, 536870911, m.number()))
	case 1:
		return key(pick(m, m.key(true), m.key(false), value.Num(m.Uint64()), value.Str(strings.Repeat("x", m.IntN(40)))))
	case 2:
		return index(m.number())
	case 3:
		return rest()
	case 4:
		from := m.number()
		return span(from, min(1<<30, from+m.number()))
	}
	return oneof(m.number())
}

func (m *maker) path(most int) Path {
	var p Path
	for range m.IntN(most + 1) {
		p = append(p, m.step())
	}
	return p
}

// near is a path that leads into a value, or nearly so.
func (m *maker) near(v value.Value) Path {
	p := Path{}
	if all := modelAll(v); len(all) > 0 {
		p = slices.Clone(pick(m, all...))
	}
	switch m.IntN(6) {
	case 0:
		p = append(p, m.step())
	case 1:
		from := m.IntN(5)
		p = append(p, span(from, from+m.IntN(4)))
	case 2:
		from := m.IntN(3)
		p = append(p, span(from, from+m.IntN(4)), m.step())
	case 3:
		p = append(p, rest())
	case 4:
		if len(p) > 0 {
			p[m.IntN(len(p))] = m.step()
		}
	}
	return p
}

// changed is a path with one thing changed, which may be a wrong one then.
func (m *maker) changed(p Path) Path {
	p = slices.Clone(p)
	if len(p) == 0 {
		return append(p, m.step())
	}
	s := &p[m.IntN(len(p))]
	edges := []int{0, 1, 2, -1, 1 << 30, 1<<30 + 1, math.MaxInt, math.MinInt}
	switch m.IntN(7) {
	case 0:
		s.Kind = pick(m, 0, 1, 2, 3, 4, 5, 6, 7, -1, math.MaxInt, math.MinInt)
	case 1:
		s.Number = pick(m, edges...)
	case 2:
		s.To = pick(m, edges...)
	case 3:
		s.Key = pick(m, value.Value{}, m.key(true), m.key(false), m.anything(0), m.anything(1), empty(), list(value.Num(1)), value.Str(strings.Repeat("x", 4095+m.IntN(3))))
	case 4:
		s.Key.Number, s.Key.Text = uint64(m.IntN(2)), pick(m, "", "a")
	case 5:
		return append(p, m.step())
	case 6:
		return p[:len(p)-1]
	}
	return p
}
