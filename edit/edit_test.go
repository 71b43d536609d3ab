package edit

import (
	"math"
	"slices"
	"strings"
	"testing"
	"time"

	"redline/value"
)

const (
	mostNumber = 536870911 // MaxNumber
	mostCount  = 1048576   // 2^20
)

func num(n uint64) value.Value { return value.Num(n) }

func str(s string) value.Value { return value.Str(s) }

func list(values ...value.Value) value.Value { return value.Value{Kind: value.List, List: values} }

func message(rest string, fields ...value.Field) value.Value {
	return value.Value{Kind: value.Message, Fields: fields, Rest: rest}
}

func table(pairs ...value.Pair) value.Value { return value.Value{Kind: value.Map, Pairs: pairs} }

func swap(old, new value.Value) Edit { return Edit{Kind: Swap, Old: old, New: new} }

// other is a Swap that is right.
func other() Edit { return swap(num(1), num(2)) }

func into(fields ...Field) Edit { return Edit{Kind: Into, Fields: fields} }

func rests(old, new string, fields ...Field) Edit {
	return Edit{Kind: Into, Fields: fields, Rests: true, RestOld: old, RestNew: new}
}

func row(steps ...Step) Edit { return Edit{Kind: Row, Steps: steps} }

func book(keys ...Key) Edit { return Edit{Kind: Book, Keys: keys} }

func kept(count int) Step { return Step{Kind: Keep, Count: count} }

func drop(v value.Value) Step { return Step{Kind: Drop, Value: v} }

func put(v value.Value) Step { return Step{Kind: Put, Value: v} }

func change(e Edit) Step { return Step{Kind: Change, Edit: e} }

// wrongValues are values of which some aren't right, and the others aren't right everywhere.
func wrongValues() []value.Value {
	return []value.Value{
		{}, {Kind: -1}, {Kind: 6}, {Kind: math.MinInt}, {Kind: math.MaxInt}, {Number: 1}, {Text: "a"}, {Rest: "a"}, {List: []value.Value{{}}}, {Fields: []value.Field{{}}}, {Pairs: []value.Pair{{}}},
		list(), list(value.Value{}), list(num(1)), list(list(num(1))), table(), table(value.Pair{}), table(value.Pair{Key: num(1), Value: num(1)}),
		{Kind: value.Number, Text: "a"}, {Kind: value.Text, Number: 1}, message("a", value.Field{Number: 0, Value: num(1)}), message("", value.Field{Number: 1}), {Kind: value.Message, Text: "a"},
	}
}

// holdAll holds the calls that are asked of any edits against the models.
func holdAll(t *testing.T, a, b Edit) {
	t.Helper()
	for _, e := range []Edit{a, b} {
		if got, want := Right(e), modelRight(e); got != want {
			t.Fatalf("Right(%v): %v, want %v", e, got, want)
		}
		size, depth := modelSizeDepth(e)
		if got := Size(e); got != size {
			t.Fatalf("Size(%v): %d, want %d", e, got, size)
		}
		if got := Depth(e); got != depth {
			t.Fatalf("Depth(%v): %d, want %d", e, got, depth)
		}
	}
	want := modelEqual(a, b)
	if Equal(a, b) != want || Equal(b, a) != want {
		t.Fatalf("Equal(%v, %v): %v, want %v", a, b, Equal(a, b), want)
	}
}

// holdTidy holds Tidy against the model, and what is tidied, and right steps, against themselves.
func holdTidy(t *testing.T, steps []Step) {
	t.Helper()
	got := Tidy(steps)
	if want := modelTidy(steps); !stepsExact(got, want) {
		t.Fatalf("Tidy(%v): %v, want %v", steps, got, want)
	}
	if again := Tidy(got); !stepsExact(again, got) {
		t.Fatalf("Tidy(%v): %v: what is tidied doesn't stay as it is", got, again)
	}
	if Right(row(steps...)) && !stepsExact(got, steps) {
		t.Fatalf("Tidy(%v): %v: right steps aren't tidy", steps, got)
	}
}

// shortRows are all rows of what is given up to a length.
func shortRows[T any](of []T, length int) [][]T {
	all := [][]T{nil}
	last := all
	for range length {
		var next [][]T
		for _, row := range last {
			for _, x := range of {
				next = append(next, append(slices.Clone(row), x))
			}
		}
		all = append(all, next...)
		last = next
	}
	return all
}

// P21.1: the kinds' numbers.
func TestKinds(t *testing.T) {
	if !slices.Equal([]int{Same, Swap, Into, Row, Book}, []int{0, 1, 2, 3, 4}) {
		t.Error("kinds of edits")
	}
	if !slices.Equal([]int{Keep, Drop, Put, Change}, []int{1, 2, 3, 4}) {
		t.Error("kinds of steps")
	}
}

// P21.1: the chapter's example.
func TestExample(t *testing.T) {
	e := Swapped(value.Value{}, num(1))
	if !modelExact(e, swap(value.Value{}, num(1))) || Size(e) != 2 || Depth(e) != 1 || !Right(e) {
		t.Errorf("%v, of size %d and depth %d", e, Size(e), Depth(e))
	}
}

// rightEdits are right ones of all kinds, at the edges; none is Same, and no two are equal.
func rightEdits() []Edit {
	deep := into(Field{1, row(kept(3), change(book(Key{str("a"), into(Field{2, other()})})))})
	return []Edit{
		other(), swap(value.Value{}, num(0)), swap(num(0), value.Value{}), swap(num(0), str("")), swap(str(""), message("")), swap(list(num(1)), list(num(1), num(1))), swap(value.Value{}, table(value.Pair{Key: num(1), Value: num(1)})),
		rests("", "a"), rests("a", ""), rests("\xff", "a"),
		into(Field{1, other()}), into(Field{mostNumber, other()}), into(Field{1, other()}, Field{2, other()}, Field{mostNumber, rests("", "a")}), rests("a", "b", Field{5, other()}),
		into(Field{1, into(Field{1, other()})}), into(Field{1, row(drop(num(1)))}), into(Field{1, book(Key{num(1), other()})}),
		row(drop(num(1))), row(put(num(1))), row(drop(str(""))), row(put(str("\xff"))), row(drop(message(""))), row(put(message("a", value.Field{Number: 1, Value: list(num(1))}))), row(change(other())), row(change(into(Field{1, other()}))), row(change(row(put(num(0))))), row(change(book(Key{num(1), other()}))), row(change(swap(list(num(1)), value.Value{}))),
		row(kept(1), drop(num(1))), row(kept(mostCount), drop(num(1))), row(drop(num(1)), kept(1)), row(kept(1), put(num(1)), kept(1)), row(kept(1), change(other()), kept(2), change(other())),
		row(drop(num(1)), put(num(1))), row(drop(num(1)), drop(num(1)), put(num(1)), put(num(2))), row(put(num(1)), kept(1), drop(num(1))), row(put(num(1)), change(other()), drop(num(1))), row(change(other()), change(other())), row(drop(num(1)), change(other()), put(num(1)), change(other())), row(put(str("a")), put(num(1))),
		book(Key{num(0), other()}), book(Key{num(math.MaxUint64), other()}), book(Key{str(""), other()}), book(Key{num(1), other()}, Key{num(2), other()}, Key{num(1 << 63), other()}), book(Key{str(""), other()}, Key{str("B"), other()}, Key{str("a"), other()}, Key{str("aa"), other()}, Key{str("\xff"), other()}),
		book(Key{num(1), row(drop(num(1)))}), book(Key{num(1), book(Key{str("a"), other()})}), book(Key{num(1), rests("", "a")}),
		deep,
	}
}

// P21.1: edits that are right, alone and within others.
func TestRight(t *testing.T) {
	for _, e := range append(rightEdits(), Edit{}) {
		if !Right(e) || !Right(modelCopy(e)) {
			t.Errorf("%v isn't right", e)
		}
		holdAll(t, e, modelCopy(e))
		changes := e.Kind != Same
		for _, around := range around(e) {
			if Right(around) != changes {
				t.Errorf("Right(%v): %v", around, !changes)
			}
			holdAll(t, around, modelCopy(around))
		}
	}
}

// around are edits that are right just if one, that lies in them, is right and not Same.
func around(e Edit) []Edit {
	return []Edit{
		into(Field{1, e}), rests("", "a", Field{1, other()}, Field{2, e}), row(change(e)), row(drop(num(1)), change(other()), change(e), kept(1)), book(Key{num(1), e}), book(Key{str(""), other()}, Key{str("a"), e}, Key{str("b"), other()}),
		into(Field{1, row(change(book(Key{num(1), e})))}),
	}
}

// P21.1: edits that aren't right, alone and within others.
func TestNotRight(t *testing.T) {
	wrong := Edit{Kind: Row}
	for i, e := range []Edit{
		{Kind: -1}, {Kind: 5}, {Kind: math.MinInt}, {Kind: math.MaxInt},
		swap(value.Value{}, value.Value{}), swap(num(1), num(1)), swap(str(""), str("")), swap(list(num(1)), list(num(1))), swap(message(""), message("")),
		into(), rests("", ""), rests("a", "a"), rests("a", "a", Field{1, other()}),
		{Kind: Into, RestOld: "a", RestNew: "b"}, {Kind: Into, RestOld: "a", Fields: []Field{{1, other()}}}, {Kind: Into, RestNew: "a", Fields: []Field{{1, other()}}}, {Kind: Into, RestOld: "a", RestNew: "b", Fields: []Field{{1, other()}}},
		into(Field{0, other()}), into(Field{-1, other()}), into(Field{mostNumber + 1, other()}), into(Field{math.MinInt, other()}), into(Field{math.MaxInt, other()}),
		into(Field{1, other()}, Field{1, other()}), into(Field{2, other()}, Field{1, other()}), into(Field{1, other()}, Field{3, other()}, Field{2, other()}), into(Field{1, other()}, Field{2, other()}, Field{mostNumber + 1, other()}),
		into(Field{1, Edit{}}), into(Field{1, other()}, Field{2, Edit{}}), into(Field{1, Edit{}}, Field{2, other()}), rests("", "a", Field{1, Edit{}}), rests("", "a", Field{1, wrong}), into(Field{1, wrong}, Field{2, other()}),
		row(), row(kept(1)), row(kept(1), kept(1)), row(kept(1), kept(1), drop(num(1))), row(drop(num(1)), kept(1), kept(1)),
		row(kept(0), drop(num(1))), row(kept(-1), drop(num(1))), row(kept(mostCount+1), drop(num(1))), row(kept(math.MinInt), drop(num(1))), row(kept(math.MaxInt), drop(num(1))),
		row(put(num(1)), drop(num(1))), row(drop(num(1)), put(num(1)), drop(num(1))), row(kept(1), put(num(1)), put(num(1)), drop(num(1)), kept(1)),
		row(change(Edit{})), row(change(Edit{}), drop(num(1))), row(change(wrong)), row(drop(num(1)), change(wrong)),
		row(Step{}), row(Step{Kind: 5}), row(Step{Kind: -1}), row(drop(num(1)), Step{Kind: 5, Value: num(1)}), row(drop(num(1)), Step{}), row(Step{Count: 1}, drop(num(1))),
		book(), book(Key{num(1), Edit{}}), book(Key{num(1), other()}, Key{num(2), Edit{}}), book(Key{num(1), wrong}), book(Key{num(1), wrong}, Key{num(2), other()}),
		book(Key{num(1), other()}, Key{num(1), other()}), book(Key{num(2), other()}, Key{num(1), other()}), book(Key{num(1 << 63), other()}, Key{num(1), other()}), book(Key{str("a"), other()}, Key{str("a"), other()}), book(Key{str("a"), other()}, Key{str("B"), other()}), book(Key{str("a"), other()}, Key{str("c"), other()}, Key{str("b"), other()}),
		book(Key{num(1), other()}, Key{str("a"), other()}), book(Key{str("a"), other()}, Key{num(1), other()}),
		book(Key{message(""), other()}), book(Key{list(num(1)), other()}), book(Key{table(value.Pair{Key: num(1), Value: num(1)}), other()}), book(Key{value.Value{}, other()}), book(Key{num(1), other()}, Key{message(""), other()}), book(Key{message("a"), other()}, Key{message("b"), other()}),
	} {
		if Right(e) || Right(modelCopy(e)) {
			t.Errorf("%d: %v is right", i, e)
		}
		holdAll(t, e, modelCopy(e))
		for _, around := range around(e) {
			if Right(around) {
				t.Errorf("%d: %v is right", i, around)
			}
			holdAll(t, around, modelCopy(around))
		}
	}
}

// P21.1: of all values at each place where there is one.
func TestRightValues(t *testing.T) {
	values := append(wrongValues(), num(0), num(math.MaxUint64), str(""), str("\xff"), message(""), message("\xff", value.Field{Number: mostNumber, Value: list(num(1))}))
	for _, v := range values {
		single := v.Kind >= value.Number && v.Kind <= value.Message && value.Right(v)
		key := single && v.Kind != value.Message
		for _, x := range []struct {
			e    Edit
			want bool
		}{
			{swap(v, num(7)), value.Right(v)}, {swap(num(7), v), value.Right(v)}, {swap(v, v), false},
			{row(drop(v)), single}, {row(put(v)), single}, {row(drop(num(1)), put(num(1)), put(v), kept(1)), single}, {row(kept(1), drop(v), drop(num(1))), single},
			{book(Key{v, other()}), key},
		} {
			if got := Right(x.e); got != x.want {
				t.Errorf("Right(%v): %v", x.e, got)
			}
			holdAll(t, x.e, modelCopy(x.e))
		}
		for _, w := range values {
			e := swap(v, w)
			if Right(e) != (value.Right(v) && value.Right(w) && !value.Same(v, w)) {
				t.Errorf("Right(%v): %v", e, Right(e))
			}
			holdAll(t, e, swap(w, v))
		}
	}
}

// spoils is what a kind may not have: each alone, and the kinds that have it.
func spoils() map[int][]func(e *Edit) {
	return map[int][]func(e *Edit){
		Swap: {
			func(e *Edit) { e.Old = num(0) }, func(e *Edit) { e.New = str("") }, func(e *Edit) { e.Old.Number = 1 }, func(e *Edit) { e.New.Kind = 6 },
			func(e *Edit) { e.Old.Text = "a" }, func(e *Edit) { e.New.Rest = "a" }, func(e *Edit) { e.Old.List = []value.Value{{}} }, func(e *Edit) { e.New.Fields = []value.Field{{}} }, func(e *Edit) { e.Old.Pairs = []value.Pair{{}} },
		},
		Into: {
			func(e *Edit) { e.Fields = []Field{{1, other()}} }, func(e *Edit) { e.Fields = []Field{{}} }, func(e *Edit) { e.Rests = true }, func(e *Edit) { e.RestOld = "\x00" }, func(e *Edit) { e.RestNew = "\x00" },
			func(e *Edit) { e.Rests, e.RestOld = true, "a" },
		},
		Row:  {func(e *Edit) { e.Steps = []Step{drop(num(1))} }, func(e *Edit) { e.Steps = []Step{{}} }},
		Book: {func(e *Edit) { e.Keys = []Key{{num(1), other()}} }, func(e *Edit) { e.Keys = []Key{{}} }},
	}
}

// P21.1: what a kind doesn't have is zero, or empty; it is held in Equal, and counts in Size and Depth (but of Same).
func TestForeignParts(t *testing.T) {
	for _, e := range []Edit{{}, other(), into(Field{1, other()}), rests("", "a"), row(drop(num(1))), book(Key{num(1), other()})} {
		for kind, all := range spoils() {
			if kind == e.Kind {
				continue
			}
			for i, spoil := range all {
				x := modelCopy(e)
				spoil(&x)
				if Right(x) || slices.ContainsFunc(around(x), Right) {
					t.Errorf("%v is right", x)
				}
				if foreign := kind != Swap || i == 0 || i == 1 || i == 3; Equal(e, x) == foreign { // what is changed within a None leaves it the same
					t.Errorf("Equal(%v, %v): %v", e, x, Equal(e, x))
				}
				holdAll(t, e, x)
			}
		}
	}
}

// P21.1: what a step's kind doesn't have is zero, or empty.
func TestForeignStepParts(t *testing.T) {
	all := map[int][]func(s *Step){
		Keep:   {func(s *Step) { s.Count = 1 }, func(s *Step) { s.Count = -1 }},
		Drop:   {func(s *Step) { s.Value = num(0) }, func(s *Step) { s.Value.Number = 1 }, func(s *Step) { s.Value.Kind = 6 }, func(s *Step) { s.Value.List = []value.Value{{}} }},
		Change: {func(s *Step) { s.Edit = other() }, func(s *Step) { s.Edit.RestOld = "a" }, func(s *Step) { s.Edit.Kind = 9 }, func(s *Step) { s.Edit.Steps = []Step{{}} }, func(s *Step) { s.Edit.Old.Number = 1 }},
	}
	for _, s := range []Step{kept(1), drop(num(1)), put(str("a")), change(other())} {
		for kind, spoils := range all {
			if kind == s.Kind || kind == Drop && s.Kind == Put {
				continue
			}
			for _, spoil := range spoils {
				x := s
				spoil(&x)
				e := row(put(num(1)), change(other()), x, change(other()))
				if Right(e) || !Right(row(put(num(1)), change(other()), s, change(other()))) {
					t.Errorf("Right(%v): %v", e, Right(e))
				}
				holdAll(t, e, row(put(num(1)), change(other()), s, change(other())))
				holdTidy(t, e.Steps)
			}
		}
	}
}

// P21.1: no two of unlike edits are equal, and each one is equal to itself, in which lists are made anew.
func TestEqual(t *testing.T) {
	unlike := append(rightEdits(), Edit{}, Edit{Kind: Row}, Edit{Kind: Book}, Edit{Kind: Into}, Edit{Kind: Swap}, Edit{Kind: 5}, Edit{Kind: -1},
		Edit{Rests: true}, Edit{RestOld: "a"}, Edit{RestNew: "a"}, Edit{Old: num(1)}, Edit{New: num(1)}, Edit{Fields: []Field{{}}}, Edit{Steps: []Step{{}}}, Edit{Keys: []Key{{}}},
		Edit{Fields: []Field{{}, {}}}, Edit{Steps: []Step{{}, {}}}, Edit{Keys: []Key{{}, {}}}, Edit{Fields: []Field{{1, Edit{}}}}, Edit{Fields: []Field{{0, other()}}},
		Edit{Steps: []Step{{Kind: 1}}}, Edit{Steps: []Step{{Count: 1}}}, Edit{Steps: []Step{{Value: num(1)}}}, Edit{Steps: []Step{{Edit: other()}}}, Edit{Keys: []Key{{num(1), Edit{}}}}, Edit{Keys: []Key{{value.Value{}, other()}}},
		swap(num(2), num(1)), swap(num(1), num(3)), swap(num(1), str("2")), row(kept(2), drop(num(1))), row(drop(num(2))), row(put(num(1)), put(str("a"))), row(change(swap(num(1), num(3)))), book(Key{num(0), swap(num(1), num(3))}), into(Field{2, other()}), into(Field{1, swap(num(1), num(3))}),
		rests("", "b"), rests("b", ""))
	for i, a := range unlike {
		for j, b := range unlike {
			if got := Equal(a, modelCopy(b)); got != (i == j) {
				t.Errorf("Equal(%v, %v): %v", a, b, got)
			}
			holdAll(t, a, b)
		}
	}
	for _, x := range [][2]value.Value{{{}, {Number: 1}}, {num(1), {Kind: value.Number, Number: 1, Text: "a"}}, {{Kind: 6}, {Kind: 6, Number: 1}}, {list(), {Kind: value.List, Number: 1}}} { // the same, by layer 13
		for _, of := range []func(v value.Value) Edit{
			func(v value.Value) Edit { return swap(v, num(5)) }, func(v value.Value) Edit { return swap(num(5), v) }, func(v value.Value) Edit { return row(drop(v)) }, func(v value.Value) Edit { return book(Key{v, other()}) },
		} {
			if !Equal(of(x[0]), of(x[1])) {
				t.Errorf("%v and %v aren't equal", of(x[0]), of(x[1]))
			}
		}
	}
}

// P21.1: sizes and depths, written out.
func TestSizeDepth(t *testing.T) {
	v := message("r", value.Field{Number: 1, Value: list(num(1), str(""))}) // of size 4
	all := Edit{Old: num(1), New: v, Fields: []Field{{1, other()}}, Steps: []Step{drop(v), change(into(Field{1, other()}))}, Keys: []Key{{str(""), other()}}, RestOld: "a"}
	of := func(kind int) Edit {
		e := all
		e.Kind = kind
		return e
	}
	for _, x := range []struct {
		e           Edit
		size, depth int
	}{
		{Edit{}, 0, 0}, {of(Same), 0, 0}, {other(), 3, 1}, {swap(value.Value{}, v), 5, 1}, {swap(v, value.Value{}), 5, 1}, {swap(v, num(1)), 6, 1}, {Edit{Kind: Swap}, 1, 1}, {swap(v, v), 9, 1},
		{rests("abc", ""), 1, 1}, {into(Field{7, other()}), 4, 2}, {into(Field{7, other()}, Field{9, other()}), 7, 2}, {into(Field{1, into(Field{1, other()})}, Field{2, other()}), 8, 3}, {into(Field{1, other()}, Field{2, into(Field{1, other()})}), 8, 3}, {into(), 1, 1}, {into(Field{1, Edit{}}), 1, 1}, {into(Field{1, of(Same)}), 1, 1},
		{row(), 1, 1}, {row(kept(1)), 2, 1}, {row(kept(100), drop(num(1))), 4, 1}, {row(drop(v)), 6, 1}, {row(put(v), put(num(1))), 8, 1}, {row(change(other())), 5, 2}, {row(change(other()), kept(1), change(row(change(other())))), 12, 3}, {row(Step{}), 2, 1}, {row(Step{Kind: 9, Value: num(1), Edit: other()}), 6, 2}, {row(change(Edit{})), 2, 1},
		{book(), 1, 1}, {book(Key{num(1), other()}), 5, 2}, {book(Key{str("a"), other()}, Key{str("b"), book(Key{num(1), other()})}), 11, 3}, {book(Key{value.Value{}, other()}), 4, 2}, {book(Key{v, Edit{}}), 5, 1},
		{of(Swap), 23, 3}, {of(Into), 23, 3}, {of(Row), 23, 3}, {of(Book), 23, 3}, {of(5), 23, 3}, {of(-1), 23, 3}, {into(Field{1, of(9)}), 24, 4},
	} {
		if got := Size(x.e); got != x.size {
			t.Errorf("Size(%v): %d, want %d", x.e, got, x.size)
		}
		if got := Depth(x.e); got != x.depth {
			t.Errorf("Depth(%v): %d, want %d", x.e, got, x.depth)
		}
		holdAll(t, x.e, modelCopy(x.e))
	}
}

// P21.1: the Swap from each value to each other one, or Same.
func TestSwapped(t *testing.T) {
	values := append(wrongValues(), num(1), num(2), str(""), str("1"), message(""), message("a"), list(num(1), num(1)))
	for _, old := range values {
		for _, new := range values {
			want := swap(old, new)
			if value.Same(old, new) {
				want = Edit{}
			}
			if got := Swapped(old, valueCopy(new)); !modelExact(got, want) {
				t.Errorf("Swapped(%v, %v): %v", old, new, got)
			}
		}
	}
	for _, x := range []struct{ old, new value.Value }{{value.Value{}, num(1)}, {num(1), value.Value{}}, {num(1), str("1")}, {list(num(1)), list(num(2))}} {
		if got := Swapped(x.old, x.new); !modelExact(got, swap(x.old, x.new)) || !Right(got) {
			t.Errorf("Swapped(%v, %v): %v", x.old, x.new, got)
		}
	}
	if got := Swapped(value.Value{}, value.Value{}); !modelExact(got, Edit{}) {
		t.Errorf("from None to None: %v", got)
	}
}

// P21.1: steps in order, written out.
func TestTidy(t *testing.T) {
	a, b, c, d, e := num(1), str("b"), message("c"), num(4), change(other())
	same := change(Edit{})
	for _, x := range []struct{ steps, want []Step }{
		{nil, nil}, {[]Step{}, nil},
		{[]Step{put(a), drop(b)}, []Step{drop(b), put(a)}},
		{[]Step{put(a), put(b), drop(c), drop(d)}, []Step{drop(c), drop(d), put(a), put(b)}},
		{[]Step{put(b), drop(d), put(a), drop(c)}, []Step{drop(d), drop(c), put(b), put(a)}},
		{[]Step{put(a), kept(1), drop(b)}, []Step{put(a), kept(1), drop(b)}},
		{[]Step{put(a), drop(b), kept(1), put(c), drop(d)}, []Step{drop(b), put(a), kept(1), drop(d), put(c)}},
		{[]Step{put(a), e, drop(b)}, []Step{put(a), e, drop(b)}},
		{[]Step{put(a), drop(b), e, put(c), drop(d), e}, []Step{drop(b), put(a), e, drop(d), put(c), e}},
		{[]Step{e, e}, []Step{e, e}},
		{[]Step{kept(1), kept(2), kept(3)}, []Step{kept(6)}}, {[]Step{kept(1), drop(a), kept(2), kept(3)}, []Step{kept(1), drop(a), kept(5)}}, {[]Step{kept(1), e, kept(2)}, []Step{kept(1), e, kept(2)}}, {[]Step{kept(1), put(a), kept(2)}, []Step{kept(1), put(a), kept(2)}},
		{[]Step{kept(0)}, nil}, {[]Step{kept(-5), kept(math.MinInt)}, nil}, {[]Step{kept(2), kept(0), kept(3)}, []Step{kept(5)}}, {[]Step{kept(2), kept(-1), kept(3)}, []Step{kept(5)}},
		{[]Step{put(a), kept(0), drop(b)}, []Step{drop(b), put(a)}}, {[]Step{put(a), kept(-1), drop(b)}, []Step{drop(b), put(a)}},
		{[]Step{same}, []Step{kept(1)}}, {[]Step{same, same, same}, []Step{kept(3)}}, {[]Step{kept(2), same, kept(4)}, []Step{kept(7)}}, {[]Step{put(a), same, drop(b)}, []Step{put(a), kept(1), drop(b)}}, {[]Step{same, e, same, drop(a), same}, []Step{kept(1), e, kept(1), drop(a), kept(1)}},
		{[]Step{{}}, nil}, {[]Step{{Kind: 5}, {Kind: -1, Count: 4}, {Kind: math.MaxInt, Value: a, Edit: other()}}, nil}, {[]Step{kept(1), {}, kept(1)}, []Step{kept(2)}}, {[]Step{put(a), {Kind: 5, Count: 1}, drop(b)}, []Step{drop(b), put(a)}},
		{[]Step{{Kind: Keep, Count: 2, Value: a, Edit: other()}}, []Step{kept(2)}}, {[]Step{{Kind: Change, Count: 7, Value: a, Edit: Edit{RestOld: "a"}}}, []Step{kept(1)}},
		{[]Step{{Kind: Put, Count: 7, Value: a, Edit: other()}, {Kind: Drop, Count: -7, Value: value.Value{Kind: 6}, Edit: Edit{Kind: 9}}, {Kind: Change, Count: 7, Value: a, Edit: Edit{Kind: 9}}}, []Step{{Kind: Drop, Count: -7, Value: value.Value{Kind: 6}, Edit: Edit{Kind: 9}}, {Kind: Put, Count: 7, Value: a, Edit: other()}, {Kind: Change, Count: 7, Value: a, Edit: Edit{Kind: 9}}}},
		{[]Step{kept(mostCount), kept(mostCount)}, []Step{kept(2 * mostCount)}},
	} {
		if got := Tidy(x.steps); !stepsExact(got, x.want) {
			t.Errorf("Tidy(%v): %v, want %v", x.steps, got, x.want)
		}
		holdTidy(t, x.steps)
	}
}

// P21.1, P21.2: all short rows of steps.
func TestStepsShort(t *testing.T) {
	steps := []Step{kept(1), kept(3), kept(0), drop(num(1)), drop(str("a")), put(num(1)), put(num(2)), change(other()), change(Edit{}), {}, {Kind: 5}, {Kind: Keep, Count: 1, Value: num(1)}, drop(list(num(1)))}
	for _, all := range shortRows(steps, 4) {
		e := row(all...)
		holdAll(t, e, e)
		holdTidy(t, all)
	}
	for _, all := range shortRows([]Step{kept(1), drop(num(1)), drop(num(2)), put(num(1)), put(num(2)), change(other())}, 6) {
		holdTidy(t, all)
		if Right(row(all...)) != modelRight(row(all...)) {
			t.Fatalf("Right(%v): %v", all, Right(row(all...)))
		}
	}
}

// P21.1: all short rows of fields and of keys, and all Rests.
func TestFieldsKeysShort(t *testing.T) {
	var fields []Field
	for _, number := range []int{math.MinInt, -1, 0, 1, 2, 3, mostNumber, mostNumber + 1} {
		fields = append(fields, Field{number, other()})
	}
	for _, all := range shortRows(append(fields, Field{2, Edit{}}, Field{3, Edit{Kind: 9}}), 3) {
		for _, told := range []bool{false, true} {
			for _, rest := range [][2]string{{"", ""}, {"a", ""}, {"", "a"}, {"a", "a"}, {"a", "b"}} {
				e := Edit{Kind: Into, Fields: all, Rests: told, RestOld: rest[0], RestNew: rest[1]}
				holdAll(t, e, Edit{Kind: Into, Fields: all})
			}
		}
	}
	var keys []Key
	for _, key := range []value.Value{{}, num(0), num(1), num(1 << 63), str(""), str("B"), str("a"), message(""), {Kind: value.Number, Text: "a"}} {
		keys = append(keys, Key{key, other()})
	}
	for _, all := range shortRows(append(keys, Key{num(2), Edit{}}, Key{str("b"), Edit{Kind: 9}}), 3) {
		e := book(all...)
		holdAll(t, e, modelCopy(e))
	}
}

// P21.1, P21.2: edits by chance: right ones, ones with one thing changed, and any.
func TestByChance(t *testing.T) {
	asked, right, equal := 0, 0, 0
	for seed := range uint64(150) {
		m := newMaker(seed)
		last := Edit{}
		for range 40 {
			e := m.right(3, false)
			if !Right(e) {
				t.Fatalf("%v isn't right", e)
			}
			for _, x := range []Edit{e, m.changed(e), m.changed(m.changed(e)), m.anything(2)} {
				holdAll(t, x, e)
				holdAll(t, x, last)
				holdTidyWithin(t, x)
				last = x
				asked++
				if Right(x) {
					right++
				}
				if Equal(x, e) {
					equal++
				}
			}
		}
	}
	if right < asked/4 || right > asked*3/4 || equal < asked/4 || equal > asked*3/4 {
		t.Errorf("of %d are %d right and %d equal", asked, right, equal)
	}
}

// holdTidyWithin holds the steps of an edit, and of those within it, if their counts are asked.
func holdTidyWithin(t *testing.T, e Edit) {
	t.Helper()
	if !slices.ContainsFunc(e.Steps, func(s Step) bool { return s.Count > mostCount }) {
		holdTidy(t, e.Steps)
	}
	for _, within := range modelWithin(e) {
		holdTidyWithin(t, within)
	}
}

// P21.1: nothing that is given is changed, nor the room behind it; steps that are answered are the caller's.
func TestApart(t *testing.T) {
	e := into(Field{1, row(kept(1), put(num(1)), drop(list(num(1), num(2))), kept(2), kept(3), change(book(Key{num(1), swap(list(num(1)), message("", value.Field{Number: 1, Value: num(1)}))})))})
	was := modelCopy(e)
	if right, size, depth := Right(e), Size(e), Depth(e); right || size != 19 || depth != 4 || !Equal(e, was) {
		t.Errorf("%v, %d, %d", right, size, depth)
	}
	room := append(make([]Step, 0, 20), e.Fields[0].Edit.Steps...)
	room = append(room, put(num(1)), kept(9), put(num(2)), drop(num(3)), kept(7))
	wasRoom := stepsCopy(room)
	for n := range len(room) {
		got := Tidy(room[:n])
		if !stepsExact(got, modelTidy(wasRoom[:n])) {
			t.Errorf("Tidy(%v): %v", room[:n], got)
		}
		whole := got[:cap(got)]
		for i := range whole {
			whole[i] = Step{Kind: 99, Count: 99}
		}
		if !stepsExact(room, wasRoom) || slices.ContainsFunc(room[len(room):cap(room)], func(s Step) bool { return s.Kind != 0 }) {
			t.Fatalf("Tidy(%v) changed what was given", wasRoom[:n])
		}
	}
	if !modelExact(e, was) {
		t.Errorf("%v was changed", e)
	}
	old, new := list(num(1)), list(num(2), num(3))
	if Swapped(old, new); !valueExact(old, list(num(1))) || !valueExact(new, list(num(2), num(3))) {
		t.Error("a value was changed")
	}
}

// P21.1, P21.2: long and deep edits, in a time that grows as they do.
func TestLongAndDeep(t *testing.T) {
	begun := time.Now()
	const depth = 1 << 16
	deep, like, unlike, wrong := other(), other(), swap(num(1), num(3)), Edit{Kind: Row}
	for i := range depth {
		of := []func(e Edit) Edit{
			func(e Edit) Edit { return into(Field{1, e}) }, func(e Edit) Edit { return row(change(e)) }, func(e Edit) Edit { return book(Key{num(1), e}) },
		}[i%3]
		deep, like, unlike, wrong = of(deep), of(like), of(unlike), of(wrong)
	}
	if !Right(deep) || Right(wrong) || !Equal(deep, like) || Equal(deep, unlike) || Depth(deep) != depth+1 || Size(deep) != depth+3+2*(depth/3) {
		t.Errorf("deep edits: %v, %v, %v, %v, %d, %d", Right(deep), Right(wrong), Equal(deep, like), Equal(deep, unlike), Depth(deep), Size(deep))
	}
	var steps []Step
	for i := range 1 << 17 {
		steps = append(steps, put(num(uint64(i))), drop(num(uint64(i))))
	}
	got := Tidy(steps)
	if len(got) != 1<<18 || got[0].Kind != Drop || got[1<<17-1].Value.Number != 1<<17-1 || got[1<<17].Kind != Put || got[1<<18-1].Value.Number != 1<<17-1 || !Right(row(got...)) || Size(row(got...)) != 1+1<<19 {
		t.Errorf("long steps: %d", len(got))
	}
	for i := range steps {
		steps[i] = kept(1 + i%2)
		if i%4 == 3 {
			steps[i] = change(Edit{})
		}
	}
	if got := Tidy(steps); len(got) != 1 || got[0].Count != 1<<16*(1+2+1+1) {
		t.Errorf("long Keeps: %v", got)
	}
	var fields []Field
	var keys []Key
	for i := range 1 << 17 {
		fields = append(fields, Field{i + 1, other()})
		keys = append(keys, Key{str(strings.Repeat("k", i%5) + string(rune('0'+i%10))), other()})
	}
	if e := into(fields...); !Right(e) || !Equal(e, into(slices.Clone(fields)...)) || Size(e) != 1+3<<17 || Right(book(keys...)) {
		t.Error("long edits")
	}
	if took := time.Since(begun); took > 20*time.Second {
		t.Errorf("it took %v", took)
	}
}
