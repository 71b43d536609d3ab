package apply

import (
	"maps"
	"math"
	"math/rand/v2"
	"slices"

	"redline/edit"
	"redline/value"
)

func num(n uint64) value.Value { return value.Num(n) }

func str(s string) value.Value { return value.Str(s) }

func list(values ...value.Value) value.Value { return value.Value{Kind: value.List, List: values} }

func message(rest string, fields ...value.Field) value.Value {
	return value.Value{Kind: value.Message, Fields: fields, Rest: rest}
}

func has(number int, v value.Value) value.Field { return value.Field{Number: number, Value: v} }

func table(pairs ...value.Pair) value.Value { return value.Value{Kind: value.Map, Pairs: pairs} }

func pair(key, v value.Value) value.Pair { return value.Pair{Key: key, Value: v} }

func swap(old, new value.Value) edit.Edit { return edit.Edit{Kind: edit.Swap, Old: old, New: new} }

// comes and goes are Swaps from and to None.
func comes(v value.Value) edit.Edit { return swap(value.Value{}, v) }

func goes(v value.Value) edit.Edit { return swap(v, value.Value{}) }

func into(fields ...edit.Field) edit.Edit { return edit.Edit{Kind: edit.Into, Fields: fields} }

func rests(old, new string, fields ...edit.Field) edit.Edit {
	return edit.Edit{Kind: edit.Into, Fields: fields, Rests: true, RestOld: old, RestNew: new}
}

func row(steps ...edit.Step) edit.Edit { return edit.Edit{Kind: edit.Row, Steps: steps} }

func book(keys ...edit.Key) edit.Edit { return edit.Edit{Kind: edit.Book, Keys: keys} }

func field(number int, e edit.Edit) edit.Field { return edit.Field{Number: number, Edit: e} }

func key(k value.Value, e edit.Edit) edit.Key { return edit.Key{Key: k, Edit: e} }

func kept(count int) edit.Step { return edit.Step{Kind: edit.Keep, Count: count} }

func drop(v value.Value) edit.Step { return edit.Step{Kind: edit.Drop, Value: v} }

func put(v value.Value) edit.Step { return edit.Step{Kind: edit.Put, Value: v} }

func change(e edit.Edit) edit.Step { return edit.Step{Kind: edit.Change, Edit: e} }

// maker makes values by chance, of few numbers and texts, so that many are nearly the same, and edits from one to another.
type maker struct {
	*rand.Rand
	// wild is whether a Change, or a key's edit, now and then makes something else, of any kind.
	wild bool
}

func newMaker(seed uint64) *maker { return &maker{Rand: rand.New(rand.NewPCG(23, seed))} }

func pick[T any](m *maker, of ...T) T { return of[m.IntN(len(of))] }

func (m *maker) number() uint64 { return pick[uint64](m, 0, 1, 2, 1<<63, math.MaxUint64) }

func (m *maker) text() string { return pick(m, "", "a", "b", "ab", "\x00", "\xff", "B") }

func (m *maker) fieldNumber() int { return pick(m, fieldNumbers()...) }

func fieldNumbers() []int { return []int{1, 2, 3, 536870910, 536870911} }

func (m *maker) key(texts bool) value.Value {
	if texts {
		return str(m.text())
	}
	return num(m.number())
}

// part is a right value that may stand in a list.
func (m *maker) part(depth int) value.Value {
	switch {
	case depth > 0 && m.IntN(2) == 0:
		v := message(m.text())
		for range m.IntN(4) {
			v = value.With(v, m.fieldNumber(), m.value(depth-1))
		}
		return v
	case m.IntN(2) == 0:
		return num(m.number())
	}
	return str(m.text())
}

// value is a right value.
func (m *maker) value(depth int) value.Value {
	switch m.IntN(8) {
	case 0:
		return value.Value{}
	case 1, 2:
		v := list(m.part(depth))
		for range m.IntN(4) {
			v.List = append(v.List, m.part(depth))
		}
		return v
	case 3, 4:
		v, texts := value.Value{}, m.IntN(2) == 0
		for range 1 + m.IntN(4) {
			v = value.Put(v, m.key(texts), m.part(depth))
		}
		return v
	}
	return m.part(depth)
}

// near is a right value that is like another one in most of its parts.
func (m *maker) near(v value.Value, depth int) value.Value {
	if m.IntN(8) == 0 {
		return m.value(depth)
	}
	switch v.Kind {
	case value.Message:
		for _, n := range fieldNumbers() {
			if m.IntN(4) == 0 {
				v = value.With(v, n, m.near(value.Get(v, n), depth-1))
			}
		}
		if m.IntN(4) == 0 {
			v.Rest = m.text()
		}
	case value.List:
		return m.nearList(v, depth)
	case value.Map:
		texts := v.Pairs[0].Key.Kind == value.Text
		for range 1 + m.IntN(3) {
			k := m.key(texts)
			switch m.IntN(3) {
			case 0:
				v = value.Put(v, k, m.nearPart(value.Find(v, k), depth))
			case 1:
				v = value.Put(v, k, value.Value{})
			}
		}
	}
	return v
}

func (m *maker) nearPart(v value.Value, depth int) value.Value {
	for {
		if x := m.near(v, depth); x.Kind >= value.Number && x.Kind <= value.Message {
			return x
		}
		if m.IntN(4) == 0 {
			return m.part(depth)
		}
	}
}

func (m *maker) nearList(v value.Value, depth int) value.Value {
	var near []value.Value
	for _, x := range v.List {
		switch m.IntN(8) {
		case 0:
		case 1:
			near = append(near, m.part(depth), x)
		case 2, 3:
			near = append(near, m.nearPart(x, depth))
		default:
			near = append(near, x)
		}
	}
	if m.IntN(6) == 0 {
		near = append(near, m.part(depth))
	}
	if len(near) == 0 {
		return value.Value{}
	}
	return list(near...)
}

// to is a right edit from a value to another one, in one of many ways.
func (m *maker) to(v, w value.Value) edit.Edit {
	may := func(kind int) bool {
		return (v.Kind == kind || v.Kind == value.None) && (w.Kind == kind || w.Kind == value.None) && m.IntN(6) > 0
	}
	switch {
	case value.Same(v, w):
		return edit.Edit{}
	case v.Kind == value.Message && w.Kind == value.Message && m.IntN(6) > 0:
		return m.toFields(v, w)
	case may(value.List):
		return row(m.toSteps(v.List, w.List)...)
	case may(value.Map) && (len(v.Pairs) == 0 || len(w.Pairs) == 0 || v.Pairs[0].Key.Kind == w.Pairs[0].Key.Kind):
		return m.toPairs(v, w)
	}
	return swap(v, w)
}

func (m *maker) toFields(v, w value.Value) edit.Edit {
	numbers := map[int]bool{}
	for _, f := range slices.Concat(v.Fields, w.Fields) {
		numbers[f.Number] = true
	}
	e := edit.Edit{Kind: edit.Into}
	if v.Rest != w.Rest {
		e.Rests, e.RestOld, e.RestNew = true, v.Rest, w.Rest
	}
	for _, n := range slices.Sorted(maps.Keys(numbers)) {
		if x := m.to(value.Get(v, n), value.Get(w, n)); x.Kind != edit.Same {
			e.Fields = append(e.Fields, field(n, x))
		}
	}
	return e
}

func (m *maker) toSteps(a, b []value.Value) []edit.Step {
	var steps []edit.Step
	for len(a) > 0 || len(b) > 0 {
		switch {
		case len(a) > 0 && len(b) > 0 && value.Same(a[0], b[0]) && m.IntN(8) > 0:
			steps, a, b = append(steps, kept(1)), a[1:], b[1:]
		case len(a) > 0 && len(b) > 0 && !value.Same(a[0], b[0]) && m.IntN(3) > 0:
			steps, a, b = append(steps, change(m.single(a[0], b[0]))), a[1:], b[1:]
		case len(a) > 0 && (len(b) == 0 || m.IntN(2) == 0):
			steps, a = append(steps, drop(a[0])), a[1:]
		default:
			steps, b = append(steps, put(b[0])), b[1:]
		}
	}
	return edit.Tidy(steps)
}

func (m *maker) toPairs(v, w value.Value) edit.Edit {
	keys := value.Value{} // a map with the keys of both
	for _, p := range slices.Concat(v.Pairs, w.Pairs) {
		keys = value.Put(keys, p.Key, num(0))
	}
	e := edit.Edit{Kind: edit.Book}
	for _, p := range keys.Pairs {
		if x := m.single(value.Find(v, p.Key), value.Find(w, p.Key)); x.Kind != edit.Same {
			e.Keys = append(e.Keys, key(p.Key, x))
		}
	}
	return e
}

// single is an edit from a value to another one, or, if it is a wild maker's, now and then to something else.
func (m *maker) single(v, w value.Value) edit.Edit {
	if !m.wild || m.IntN(4) > 0 {
		return m.to(v, w)
	}
	if x := m.value(1); !value.Same(v, x) {
		return m.to(v, x)
	}
	return m.to(v, w)
}
