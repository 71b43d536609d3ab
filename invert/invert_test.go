package invert

import (
	"math"
	"slices"
	"testing"
	"time"

	"redline/edit"
	"redline/value"
)

const (
	mostNumber = 536870911 // MaxNumber
	mostCount  = 1048576   // 2^20
)

func num(n uint64) value.Value { return value.Num(n) }

func str(s string) value.Value { return value.Str(s) }

func list(values ...value.Value) value.Value { return value.Value{Kind: value.List, List: values} }

func message(rest string, fields ...value.Field) value.Value {
	return value.Value{Kind: value.Message, Fields: fields, Rest: rest}
}

func table(pairs ...value.Pair) value.Value { return value.Value{Kind: value.Map, Pairs: pairs} }

func swap(old, new value.Value) edit.Edit { return edit.Edit{Kind: edit.Swap, Old: old, New: new} }

// other is a Swap that is right, and back its other way.
func other() edit.Edit { return swap(num(1), num(2)) }

func back() edit.Edit { return swap(num(2), num(1)) }

func into(fields ...edit.Field) edit.Edit { return edit.Edit{Kind: edit.Into, Fields: fields} }

func rests(old, new string, fields ...edit.Field) edit.Edit {
	return edit.Edit{Kind: edit.Into, Fields: fields, Rests: true, RestOld: old, RestNew: new}
}

func row(steps ...edit.Step) edit.Edit { return edit.Edit{Kind: edit.Row, Steps: steps} }

func book(keys ...edit.Key) edit.Edit { return edit.Edit{Kind: edit.Book, Keys: keys} }

func field(number int, e edit.Edit) edit.Field { return edit.Field{Number: number, Edit: e} }

func key(k value.Value, e edit.Edit) edit.Key { return edit.Key{Key: k, Edit: e} }

func kept(count int) edit.Step { return edit.Step{Kind: edit.Keep, Count: count} }

func drop(v value.Value) edit.Step { return edit.Step{Kind: edit.Drop, Value: v} }

func put(v value.Value) edit.Step { return edit.Step{Kind: edit.Put, Value: v} }

func change(e edit.Edit) edit.Step { return edit.Step{Kind: edit.Change, Edit: e} }

// holdOf holds the other way of a right edit against the models, and the other way of that against the edit.
func holdOf(t *testing.T, e edit.Edit) {
	t.Helper()
	got := Of(e)
	if want := modelOf(e); !exact(got, want) {
		t.Fatalf("Of(%v): %v, want %v", e, got, want)
	}
	if !sameSide(side(got, 0), side(e, 1)) || !sameSide(side(got, 1), side(e, 0)) {
		t.Fatalf("Of(%v): %v: its sides aren't the edit's", e, got)
	}
	if !edit.Right(got) {
		t.Fatalf("Of(%v): %v isn't right", e, got)
	}
	if again := Of(got); !edit.Equal(again, e) || !exact(again, e) {
		t.Fatalf("Of(%v): %v, want %v", got, again, e)
	}
	if edit.Size(got) != edit.Size(e) || edit.Depth(got) != edit.Depth(e) {
		t.Fatalf("Of(%v): %v, of the size %d and the depth %d", e, got, edit.Size(got), edit.Depth(got))
	}
}

// holdSteps holds the other way of right steps against the model, and against the other way of the edit that has them.
func holdSteps(t *testing.T, steps []edit.Step) {
	t.Helper()
	got := Steps(steps)
	if want := modelSteps(steps); !stepsExact(got, want) {
		t.Fatalf("Steps(%v): %v, want %v", steps, got, want)
	}
	if !stepsExact(Of(row(steps...)).Steps, got) {
		t.Fatalf("Steps(%v): %v, which isn't what the other way of a Row has", steps, got)
	}
	if again := Steps(got); !stepsExact(again, steps) {
		t.Fatalf("Steps(%v): %v, want %v", got, again, steps)
	}
}

// ways is an edit and its other way, written out.
type ways struct{ e, other edit.Edit }

// written are right edits of all kinds, at the edges.
func written() []ways {
	a, b, none := num(0), str(""), value.Value{}
	l, m, x := list(num(1), num(1)), message("r", value.Field{Number: 1, Value: list(num(1))}), table(value.Pair{Key: num(1), Value: num(1)})
	return []ways{
		{edit.Edit{}, edit.Edit{}},
		{other(), back()}, {swap(none, a), swap(a, none)}, {swap(a, none), swap(none, a)}, {swap(a, b), swap(b, a)}, {swap(l, m), swap(m, l)}, {swap(x, l), swap(l, x)}, {swap(none, x), swap(x, none)},
		{rests("", "a"), rests("a", "")}, {rests("a", ""), rests("", "a")}, {rests("\xff", "ab"), rests("ab", "\xff")},
		{into(field(1, other())), into(field(1, back()))}, {into(field(1, other()), field(2, swap(none, m)), field(mostNumber, swap(x, a))), into(field(1, back()), field(2, swap(m, none)), field(mostNumber, swap(a, x)))},
		{rests("a", "b", field(5, other())), rests("b", "a", field(5, back()))},
		{into(field(1, into(field(2, other())))), into(field(1, into(field(2, back()))))}, {into(field(1, rests("", "a"))), into(field(1, rests("a", "")))}, {into(field(1, row(put(a)))), into(field(1, row(drop(a))))}, {into(field(1, book(key(a, other())))), into(field(1, book(key(a, back()))))},
		{row(put(a)), row(drop(a))}, {row(drop(m)), row(put(m))}, {row(put(b), put(a), put(m)), row(drop(b), drop(a), drop(m))}, {row(drop(b), drop(a)), row(put(b), put(a))},
		{row(change(other())), row(change(back()))}, {row(change(other()), change(swap(a, none))), row(change(back()), change(swap(none, a)))},
		{row(kept(1), put(a)), row(kept(1), drop(a))}, {row(put(a), kept(mostCount)), row(drop(a), kept(mostCount))}, {row(kept(3), drop(a), kept(2)), row(kept(3), put(a), kept(2))},
		{row(drop(a), put(b)), row(drop(b), put(a))}, {row(drop(num(1)), drop(num(2)), put(num(3)), put(num(4)), put(num(5))), row(drop(num(3)), drop(num(4)), drop(num(5)), put(num(1)), put(num(2)))}, {row(drop(a), put(a)), row(drop(a), put(a))},
		{row(put(a), kept(1), drop(b)), row(drop(a), kept(1), put(b))}, {row(put(a), change(other()), drop(b)), row(drop(a), change(back()), put(b))},
		{row(drop(a), put(b), kept(1), drop(num(7)), put(m), change(other()), drop(str("x")), put(num(9))), row(drop(b), put(a), kept(1), drop(m), put(num(7)), change(back()), drop(num(9)), put(str("x")))},
		{row(change(into(field(1, other())))), row(change(into(field(1, back()))))}, {row(change(row(drop(a), put(b)))), row(change(row(drop(b), put(a))))}, {row(change(book(key(b, other())))), row(change(book(key(b, back()))))},
		{book(key(a, other())), book(key(a, back()))}, {book(key(b, other()), key(str("B"), swap(none, a)), key(str("\xff"), swap(m, none))), book(key(b, back()), key(str("B"), swap(a, none)), key(str("\xff"), swap(none, m)))}, {book(key(num(1), other()), key(num(math.MaxUint64), other())), book(key(num(1), back()), key(num(math.MaxUint64), back()))},
		{book(key(a, into(field(1, other())))), book(key(a, into(field(1, back()))))}, {book(key(a, row(put(b)))), book(key(a, row(drop(b))))}, {book(key(a, book(key(b, other())))), book(key(a, book(key(b, back()))))},
		{rests("1", "2", field(1, row(kept(3), change(book(key(a, into(field(2, row(drop(a), put(b))))))), put(m)))), rests("2", "1", field(1, row(kept(3), change(book(key(a, into(field(2, row(drop(b), put(a))))))), drop(m))))},
	}
}

// P22.1: the chapter's example.
func TestExample(t *testing.T) {
	a, b := num(1), str("b")
	if got := Of(edit.Edit{Kind: edit.Swap, Old: a, New: b}); !exact(got, edit.Edit{Kind: edit.Swap, Old: b, New: a}) {
		t.Errorf("%v", got)
	}
}

// P22.1: the other way of edits of all kinds, written out.
func TestOf(t *testing.T) {
	for _, x := range written() {
		for _, e := range []edit.Edit{x.e, editCopy(x.e)} {
			if got := Of(e); !exact(got, x.other) {
				t.Errorf("Of(%v): %v, want %v", e, got, x.other)
			}
			holdOf(t, e)
		}
		if x.e.Kind == edit.Row {
			if got := Steps(x.e.Steps); !stepsExact(got, x.other.Steps) {
				t.Errorf("Steps(%v): %v, want %v", x.e.Steps, got, x.other.Steps)
			}
			holdSteps(t, x.e.Steps)
		}
	}
}

// P22.2: the other way of what is written out is right, and its other way is the edit.
func TestBack(t *testing.T) {
	for _, x := range written() {
		if !edit.Right(x.e) || !edit.Right(x.other) {
			t.Fatalf("%v or %v isn't right", x.e, x.other)
		}
		if got := Of(x.e); !edit.Right(got) {
			t.Errorf("Of(%v): %v, which isn't right", x.e, got)
		}
		if got := Of(x.other); !edit.Equal(got, x.e) {
			t.Errorf("Of(%v): %v, want %v", x.other, got, x.e)
		}
		if got := Of(Of(x.e)); !edit.Equal(got, x.e) {
			t.Errorf("Of(Of(%v)): %v", x.e, got)
		}
	}
}

// P22.1, P22.2: an edit within others, of which each is turned too.
func TestWithin(t *testing.T) {
	for _, x := range written() {
		if x.e.Kind == edit.Same {
			continue
		}
		around := func(e, two edit.Edit, old, new string, is, was edit.Step) []edit.Edit {
			return []edit.Edit{
				into(field(1, e)), rests(old, new, field(1, two), field(2, e), field(3, two)), row(change(e)), row(kept(1), change(two), change(e), is, change(e), kept(2)), book(key(num(1), e)), book(key(str(""), two), key(str("a"), e), key(str("b"), two)),
				row(change(into(field(1, book(key(num(1), e)))))), row(was, is, change(e)),
			}
		}
		a, b := num(1), num(2)
		edits, wants := around(x.e, other(), "a", "b", put(a), drop(b)), around(x.other, back(), "b", "a", drop(a), put(b))
		wants[len(wants)-1] = row(drop(a), put(b), change(x.other))
		for i, e := range edits {
			if got := Of(e); !exact(got, wants[i]) {
				t.Errorf("Of(%v): %v, want %v", e, got, wants[i])
			}
			holdOf(t, e)
			holdOf(t, wants[i])
		}
	}
}

// P22.1: steps, also such as no edit has alone.
func TestSteps(t *testing.T) {
	a, b, c := num(1), str("b"), message("c")
	for _, x := range []struct{ steps, want []edit.Step }{
		{nil, nil}, {[]edit.Step{}, nil},
		{[]edit.Step{kept(1)}, []edit.Step{kept(1)}}, {[]edit.Step{kept(mostCount)}, []edit.Step{kept(mostCount)}},
		{[]edit.Step{drop(a)}, []edit.Step{put(a)}}, {[]edit.Step{put(a)}, []edit.Step{drop(a)}}, {[]edit.Step{change(other())}, []edit.Step{change(back())}},
		{[]edit.Step{drop(a), drop(b), put(c)}, []edit.Step{drop(c), put(a), put(b)}},
		{[]edit.Step{drop(a), put(b), put(c), kept(4)}, []edit.Step{drop(b), drop(c), put(a), kept(4)}},
		{[]edit.Step{put(a), kept(1), drop(b), put(c), change(other()), drop(c)}, []edit.Step{drop(a), kept(1), drop(c), put(b), change(back()), put(c)}},
	} {
		if got := Steps(x.steps); !stepsExact(got, x.want) {
			t.Errorf("Steps(%v): %v, want %v", x.steps, got, x.want)
		}
		holdSteps(t, x.steps)
		holdSteps(t, x.want)
	}
}

// shortRows are all rows of what is given up to a length.
func shortRows[T any](of []T, length int) [][]T {
	all := [][]T{nil}
	last := all
	for range length {
		var next [][]T
		for _, row := range last {
			for _, x := range of {
				next = append(next, append(slices.Clone(row), x))
			}
		}
		all = append(all, next...)
		last = next
	}
	return all
}

// P22.1, P22.2: all short rows of steps that are right.
func TestStepsShort(t *testing.T) {
	right := 0
	for _, steps := range shortRows([]edit.Step{kept(1), kept(3), drop(num(1)), drop(str("a")), put(num(1)), put(num(2)), change(row(drop(num(1)), put(num(2))))}, 6) {
		e := row(steps...)
		if edit.Right(e) {
			right++
			holdOf(t, e)
			holdSteps(t, steps)
		}
	}
	if right < 10000 {
		t.Errorf("only %d are right", right)
	}
}

// P22.1, P22.2: right edits by chance.
func TestByChance(t *testing.T) {
	kinds := map[int]int{}
	for seed := range uint64(200) {
		m := newMaker(seed)
		for range 50 {
			e := m.right(4, false)
			if !edit.Right(e) {
				t.Fatalf("%v isn't right", e)
			}
			kinds[e.Kind]++
			was := editCopy(e)
			holdOf(t, e)
			if e.Kind == edit.Row {
				holdSteps(t, e.Steps)
			}
			if !exact(e, was) {
				t.Fatalf("%v was changed to %v", was, e)
			}
		}
	}
	for _, kind := range []int{edit.Same, edit.Swap, edit.Into, edit.Row, edit.Book} {
		if kinds[kind] < 100 {
			t.Errorf("only %d of the kind %d", kinds[kind], kind)
		}
	}
}

// P22.1: edits and steps that aren't right don't make a call panic, and aren't changed.
func TestWrong(t *testing.T) {
	hold := func(e edit.Edit) {
		t.Helper()
		was := editCopy(e)
		Of(e)
		Steps(e.Steps)
		if !exact(e, was) {
			t.Fatalf("%v was changed to %v", was, e)
		}
	}
	for _, kind := range []int{math.MinInt, -1, 0, 1, 2, 3, 4, 5, math.MaxInt} {
		hold(edit.Edit{Kind: kind})
		hold(edit.Edit{Kind: kind, Old: num(1), New: list(), Fields: []edit.Field{{}, {Number: -1, Edit: other()}}, RestOld: "a", Steps: []edit.Step{{}, put(num(1)), drop(value.Value{}), kept(0), kept(-1), change(edit.Edit{}), {Kind: kind, Value: num(1), Edit: other()}}, Keys: []edit.Key{{}, key(list(), other())}})
		hold(row(edit.Step{Kind: kind, Count: kind}, change(edit.Edit{Kind: kind})))
	}
	for seed := range uint64(100) {
		m := newMaker(seed)
		for range 50 {
			hold(m.anything(3))
		}
	}
}

// P22.1: nothing that is given is changed, nor the room behind it; lists that are answered are the caller's.
func TestApart(t *testing.T) {
	room := append(make([]edit.Step, 0, 20), drop(num(1)), put(list(num(1), num(2))), kept(2), change(rests("a", "b", field(1, row(drop(num(1)), put(num(2)))))), drop(num(3)), put(num(4)), put(num(5)))
	was := stepsCopy(room)
	for n := range len(room) + 1 {
		got := Steps(room[:n])
		if !stepsExact(got, modelSteps(was[:n])) {
			t.Errorf("Steps(%v): %v", room[:n], got)
		}
		whole := got[:cap(got)]
		for i := range whole {
			whole[i] = edit.Step{Kind: 99, Count: 99}
		}
		if !stepsExact(room, was) || slices.ContainsFunc(room[len(room):cap(room)], func(s edit.Step) bool { return s.Kind != 0 }) {
			t.Fatalf("Steps(%v) changed what was given", was[:n])
		}
	}
	e := into(field(1, row(room...)), field(2, book(key(num(1), into(field(1, other()))), key(num(2), other()))))
	e.Fields = append(make([]edit.Field, 0, 9), e.Fields...)
	e.Fields[1].Edit.Keys = append(make([]edit.Key, 0, 9), e.Fields[1].Edit.Keys...)
	wasEdit := editCopy(e)
	got := Of(e)
	for _, keys := range [][]edit.Key{got.Fields[1].Edit.Keys, got.Fields[1].Edit.Keys[:cap(got.Fields[1].Edit.Keys)]} {
		for i := range keys {
			keys[i] = key(num(99), edit.Edit{Kind: 99})
		}
	}
	for fields, i := got.Fields[:cap(got.Fields)], 0; i < len(fields); i++ {
		fields[i] = field(99, edit.Edit{Kind: 99})
	}
	if !exact(e, wasEdit) || slices.ContainsFunc(e.Fields[2:9], func(f edit.Field) bool { return f.Number != 0 }) || slices.ContainsFunc(e.Fields[1].Edit.Keys[2:9], func(k edit.Key) bool { return k.Key.Kind != 0 }) {
		t.Errorf("%v was changed to %v", wasEdit, e)
	}
}

// P22.1, P22.2: long and deep edits, in a time that grows as they do.
func TestLongAndDeep(t *testing.T) {
	begun := time.Now()
	deep, want := other(), back()
	for i := range 1<<16 - 1 {
		of := []func(e edit.Edit) edit.Edit{
			func(e edit.Edit) edit.Edit { return into(field(1, e)) }, func(e edit.Edit) edit.Edit { return row(change(e)) }, func(e edit.Edit) edit.Edit { return book(key(num(1), e)) },
		}[i%3]
		deep, want = of(deep), of(want)
	}
	got := Of(deep)
	if !edit.Equal(got, want) || !edit.Right(got) || !edit.Equal(Of(got), deep) {
		t.Error("deep edits")
	}
	var steps []edit.Step
	var fields []edit.Field
	var keys []edit.Key
	const long = 1 << 16
	for i := range uint64(long) {
		steps = append(steps, drop(num(i)))
		fields = append(fields, field(int(i)+1, other()))
		keys = append(keys, key(num(i), other()))
	}
	for i := range uint64(long) {
		steps = append(steps, put(num(long+i)))
	}
	turned := Steps(steps)
	for i, s := range turned {
		kind, n := edit.Drop, long+i
		if i >= long {
			kind, n = edit.Put, i-long
		}
		if s.Kind != kind || s.Value.Number != uint64(n) {
			t.Fatalf("step %d: %v", i, s)
		}
	}
	if len(turned) != len(steps) || !stepsExact(Steps(turned), steps) {
		t.Error("long steps")
	}
	for _, e := range []edit.Edit{row(steps...), into(fields...), book(keys...)} {
		if got := Of(e); !edit.Right(got) || edit.Equal(got, e) || !edit.Equal(Of(got), e) {
			t.Error("long edits")
		}
	}
	if took := time.Since(begun); took > 20*time.Second {
		t.Errorf("it took %v", took)
	}
}
