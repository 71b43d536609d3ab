package value

import (
	"cmp"
	"math"
	"slices"
	"strconv"
	"strings"
	"testing"
	"time"
)

const most = 536870911 // MaxNumber

func message(rest string, fields ...Field) Value {
	return Value{Kind: Message, Fields: fields, Rest: rest}
}

func list(values ...Value) Value { return Value{Kind: List, List: values} }

func table(pairs ...Pair) Value { return Value{Kind: Map, Pairs: pairs} }

// wantExact holds a value that is answered against one all over.
func wantExact(t *testing.T, what string, got, want Value) {
	t.Helper()
	if !modelExact(got, want) {
		t.Errorf("%s: %v, want %v", what, got, want)
	}
}

// holdAll holds the five calls that are asked of any values against the models.
func holdAll(t *testing.T, a, b Value) {
	t.Helper()
	for _, v := range []Value{a, b} {
		if got, want := Right(v), modelRight(v); got != want {
			t.Fatalf("Right(%v): %v, want %v", v, got, want)
		}
		if got, want := Size(v), modelSize(v); got != want {
			t.Fatalf("Size(%v): %v, want %v", v, got, want)
		}
		if got, want := Depth(v), modelDepth(v); got != want {
			t.Fatalf("Depth(%v): %v, want %v", v, got, want)
		}
	}
	want := modelCompare(a, b)
	if got := Compare(a, b); got != want {
		t.Fatalf("Compare(%v, %v): %v, want %v", a, b, got, want)
	}
	if got := Compare(b, a); got != -want {
		t.Fatalf("Compare(%v, %v): %v, want %v", b, a, got, -want)
	}
	if Same(a, b) != (want == 0) || Same(b, a) != (want == 0) {
		t.Fatalf("Same(%v, %v): %v, want %v", a, b, Same(a, b), want == 0)
	}
}

// P13.1: the kinds' numbers.
func TestKinds(t *testing.T) {
	for want, kind := range []int{None, Number, Text, Message, List, Map} {
		if kind != want {
			t.Errorf("kind %d, want %d", kind, want)
		}
	}
	if v := (Value{}); v.Kind != None {
		t.Error("a zero value isn't None")
	}
}

// P13.1: Num and Str.
func TestNumStr(t *testing.T) {
	for _, n := range []uint64{0, 1, 1 << 63, math.MaxUint64} {
		wantExact(t, "Num", Num(n), Value{Kind: 1, Number: n})
	}
	for _, s := range []string{"", "a", "\xff\x00", "ä", strings.Repeat("x", 5000)} {
		wantExact(t, "Str", Str(s), Value{Kind: 2, Text: s})
	}
}

// P13.1: values that are right, of each kind and at the edges.
func TestRight(t *testing.T) {
	field := func(number int) Value { return message("", Field{number, Num(1)}) }
	for i, v := range []Value{
		{},
		Num(0), Num(math.MaxUint64),
		Str(""), Str("\xff"),
		message(""), message("\xff"),
		{Kind: Message, Fields: []Field{}, List: []Value{}, Pairs: []Pair{}},
		{Kind: Text, Text: "a", List: []Value{}, Fields: []Field{}},
		field(1), field(most),
		message("r", Field{1, Num(0)}, Field{2, Str("")}, Field{4, message("")}, Field{5, list(Num(1))}, Field{most, table(Pair{Num(1), Num(1)})}),
		message("", Field{1, message("", Field{1, message("", Field{1, Num(0)})})}),
		list(Num(0)), list(Str("")), list(message("")),
		list(Num(2), Num(1), Num(1)),
		list(Num(1), Str("a"), message("")), // elements of unlike kinds
		table(Pair{Num(0), Num(0)}), table(Pair{Str(""), Str("")}), table(Pair{Num(7), message("")}),
		table(Pair{Num(1), Num(1)}, Pair{Num(2), Str("")}, Pair{Num(1 << 63), message("x")}, Pair{Num(math.MaxUint64), Num(1)}),
		table(Pair{Str(""), Num(1)}, Pair{Str("\x00"), Num(1)}, Pair{Str("B"), Num(1)}, Pair{Str("a"), Num(1)}, Pair{Str("aa"), Num(1)}, Pair{Str("\xff"), Num(1)}),
	} {
		if !Right(v) {
			t.Errorf("%d: %v isn't right", i, v)
		}
		if !Right(modelCopy(v)) {
			t.Errorf("%d: %v isn't right, with nil in place of empty lists, and the other way", i, v)
		}
		holdAll(t, v, modelCopy(v))
	}
}

// P13.1: values that aren't right.
func TestNotRight(t *testing.T) {
	field := func(number int, x Value) Value { return message("", Field{number, x}) }
	for i, v := range []Value{
		{Kind: -1}, {Kind: 6}, {Kind: math.MaxInt}, {Kind: math.MinInt},
		field(0, Num(1)), field(-1, Num(1)), field(most+1, Num(1)), field(math.MinInt, Num(1)), field(math.MaxInt, Num(1)),
		field(1, Value{}), field(1, list()), field(1, Value{Kind: 6}), field(1, field(0, Num(1))),
		message("", Field{1, Num(1)}, Field{1, Num(1)}),
		message("", Field{1, Num(1)}, Field{1, Num(2)}),
		message("", Field{2, Num(1)}, Field{1, Num(1)}),
		message("", Field{1, Num(1)}, Field{3, Num(1)}, Field{2, Num(1)}),
		message("", Field{1, Num(1)}, Field{2, Value{}}),
		message("", Field{1, Num(1)}, Field{2, Num(1)}, Field{0, Num(1)}),
		list(), {Kind: List, List: []Value{}}, list(Value{}), list(Num(1), Value{}), list(list(Num(1))), list(table(Pair{Num(1), Num(1)})),
		list(Num(1), list(Num(1))), list(Value{Kind: 6}), list(Value{Kind: -1}), list(field(0, Num(1))),
		list(Num(1), Value{Kind: Number, Text: "a"}),
		table(), {Kind: Map, Pairs: []Pair{}},
		table(Pair{Value{}, Num(1)}), table(Pair{message(""), Num(1)}), table(Pair{list(Num(1)), Num(1)}), table(Pair{Value{Kind: 6}, Num(1)}),
		table(Pair{Num(1), Value{}}), table(Pair{Num(1), list(Num(1))}), table(Pair{Num(1), table(Pair{Num(1), Num(1)})}), table(Pair{Num(1), Value{Kind: 6}}),
		table(Pair{Num(1), Num(1)}, Pair{Num(2), Value{}}),
		table(Pair{Num(1), Num(1)}, Pair{Num(1), Num(1)}), table(Pair{Num(2), Num(1)}, Pair{Num(1), Num(1)}),
		table(Pair{Num(1 << 63), Num(1)}, Pair{Num(1), Num(1)}), // as numbers with a sign they would rise
		table(Pair{Str("a"), Num(1)}, Pair{Str("a"), Num(1)}), table(Pair{Str("a"), Num(1)}, Pair{Str("B"), Num(1)}),
		table(Pair{Str("\xff"), Num(1)}, Pair{Str("a"), Num(1)}), table(Pair{Str("aa"), Num(1)}, Pair{Str("b"), Num(1)}, Pair{Str("a"), Num(1)}),
		table(Pair{Num(1), Num(1)}, Pair{Str("a"), Num(1)}), table(Pair{Str("a"), Num(1)}, Pair{Num(1), Num(1)}), // keys of both kinds
		table(Pair{Value{Kind: Number, Text: "a"}, Num(1)}), table(Pair{Num(1), field(0, Num(1))}),
		table(Pair{Num(1), Num(1)}, Pair{Value{Kind: Number, Number: 2, Rest: "a"}, Num(1)}),
	} {
		if Right(v) {
			t.Errorf("%d: %v is right", i, v)
		}
		if v.Kind != None && Right(message("", Field{1, v})) {
			t.Errorf("%d: a message of %v is right", i, v)
		}
		holdAll(t, v, modelCopy(v))
	}
}

// spoils is what a kind may not have: each alone.
func spoils() []func(v *Value) {
	return []func(v *Value){
		func(v *Value) { v.Number = 1 },
		func(v *Value) { v.Text = "\x00" },
		func(v *Value) { v.Fields = []Field{{}} },
		func(v *Value) { v.Rest = "\x00" },
		func(v *Value) { v.List = []Value{{}} },
		func(v *Value) { v.Pairs = []Pair{{}} },
		func(v *Value) { v.Fields = []Field{{1, Num(1)}} },
		func(v *Value) { v.List = []Value{Num(1)} },
		func(v *Value) { v.Pairs = []Pair{{Num(1), Num(1)}} },
	}
}

// P13.1: what a kind doesn't have is zero, or empty; such parts count in Size (but of None) and in Depth, and not in the order.
func TestForeignParts(t *testing.T) {
	own := map[int][]int{Number: {0}, Text: {1}, Message: {2, 3, 6}, List: {4, 7}, Map: {5, 8}}
	for _, v := range []Value{{}, Num(0), Num(7), Str(""), Str("a"), message("r", Field{1, Num(1)}), list(Num(1)), table(Pair{Num(1), Num(1)})} {
		for i, spoil := range spoils() {
			if slices.Contains(own[v.Kind], i) {
				continue
			}
			x := v
			spoil(&x)
			if Right(x) || Right(message("", Field{1, x})) || Right(list(Num(1), x)) || Right(table(Pair{Num(1), x})) || Right(table(Pair{x, Num(1)})) {
				t.Errorf("%v is right", x)
			}
			if !Same(v, x) || Compare(x, v) != 0 {
				t.Errorf("%v and %v aren't the same", v, x)
			}
			holdAll(t, v, x)
		}
	}
}

// P13.1, P13.2: values in their order, written out; each one is the same as itself alone.
func TestOrder(t *testing.T) {
	rising := []Value{
		{Kind: math.MinInt}, {Kind: -1},
		{},
		Num(0), Num(1), Num(2), Num(255), Num(256), Num(1<<63 - 1), Num(1 << 63), Num(math.MaxUint64),
		Str(""), Str("\x00"), Str("\x00\x00"), Str("B"), Str("a"), Str("a\x00"), Str("aa"), Str("ab"), Str("b"), Str("\x7f"), Str("\x80"), Str("\xff"),
		message(""), message("\x00"), message("a"), message("b"), message("\xff"),
		message("", Field{math.MinInt, Num(1)}), message("", Field{-1, Num(1)}), message("", Field{0, Num(1)}),
		message("", Field{1, Value{}}),
		message("", Field{1, Num(1)}), message("z", Field{1, Num(1)}),
		message("", Field{1, Num(1)}, Field{2, Num(1)}), message("", Field{1, Num(1)}, Field{2, Str("a")}), message("", Field{1, Num(1)}, Field{3, Num(0)}),
		message("", Field{1, Num(2)}), message("", Field{1, Num(2)}, Field{2, Num(0)}),
		message("", Field{1, Str("")}), message("", Field{1, message("")}), message("", Field{1, message("a")}), message("", Field{1, list(Num(1))}),
		message("", Field{2, Num(0)}), message("", Field{most, Num(0)}), message("", Field{math.MaxInt, Num(0)}),
		list(), list(Value{}), list(Num(1)), list(Num(1), Value{}), list(Num(1), Num(1)), list(Num(1), Str("")), list(Num(2)), list(Num(1 << 63)), list(Str("a")), list(message("")), list(list()),
		table(),
		table(Pair{Value{}, Num(3)}),
		table(Pair{Num(1), Num(1)}), table(Pair{Num(1), Num(1)}, Pair{Num(2), Num(1)}), table(Pair{Num(1), Num(1)}, Pair{Num(2), Num(2)}), table(Pair{Num(1), Num(1)}, Pair{Num(3), Num(1)}),
		table(Pair{Num(1), Num(2)}), table(Pair{Num(1), Str("")}), table(Pair{Num(2), Num(0)}), table(Pair{Num(1 << 63), Num(0)}),
		table(Pair{Str(""), Num(0)}), table(Pair{Str("a"), Num(9)}), table(Pair{Str("a"), Num(9)}, Pair{Str("b"), Num(0)}), table(Pair{Str("aa"), Num(0)}), table(Pair{Str("b"), Num(0)}),
		table(Pair{message(""), Num(0)}),
		{Kind: 6}, {Kind: math.MaxInt},
	}
	for i, a := range rising {
		for j, b := range rising {
			if got, want := Compare(a, modelCopy(b)), cmp.Compare(i, j); got != want {
				t.Errorf("Compare(%v, %v): %d, want %d", a, b, got, want)
			}
			if got := Same(a, modelCopy(b)); got != (i == j) {
				t.Errorf("Same(%v, %v): %v", a, b, got)
			}
			holdAll(t, a, b)
		}
	}
}

// P13.1: sizes and depths, written out.
func TestSizeDepth(t *testing.T) {
	inner := message("r", Field{1, Num(1)})
	all := Value{Fields: []Field{{1, inner}}, List: []Value{Num(1), Str("")}, Pairs: []Pair{{Num(1), inner}, {message(""), Num(1)}}}
	of := func(kind int) Value {
		v := all
		v.Kind = kind
		return v
	}
	for _, row := range []struct {
		v           Value
		size, depth int
	}{
		{Value{}, 0, 0},
		{Num(0), 1, 0}, {Str(""), 1, 0}, {Str("abc"), 1, 0},
		{message(""), 1, 1}, {message("rest"), 1, 1},
		{message("", Field{1, Num(7)}), 2, 1},
		{message("", Field{1, Num(7)}, Field{2, Str("")}), 3, 1},
		{message("", Field{1, inner}), 3, 2},
		{message("", Field{1, inner}, Field{2, message("", Field{1, inner})}), 6, 3},
		{list(), 1, 0}, {list(Num(1), Num(1)), 3, 0}, {list(Num(1), inner), 4, 1},
		{table(), 1, 0}, {table(Pair{Num(1), Num(1)}), 3, 0}, {table(Pair{Str(""), inner}, Pair{Str("a"), message("", Field{3, inner})}), 8, 2},
		{message("", Field{1, list(inner, message("", Field{1, inner}))}), 7, 3},
		{message("", Field{1, table(Pair{Num(1), message("")})}), 4, 2},
		{message("", Field{1, Value{}}), 1, 1}, {list(Value{}, Num(1), Value{}), 2, 0}, {table(Pair{Value{}, Value{}}), 1, 0}, // None counts nothing
		{table(Pair{message("", Field{1, message("")}), Num(1)}), 4, 2}, // in keys, too
		{Value{Kind: 6}, 1, 0}, {Value{Kind: -1}, 1, 0},
		{list(Value{Kind: 6}), 2, 0},
		{of(None), 0, 1}, {of(Number), 10, 1}, {of(Text), 10, 1}, {of(Message), 10, 2}, {of(List), 10, 1}, {of(Map), 10, 1}, {of(6), 10, 1}, {of(-1), 10, 1},
		{list(of(None)), 1, 1}, {message("", Field{1, of(None)}), 1, 2}, {message("", Field{1, of(Number)}), 11, 2},
	} {
		if got := Size(row.v); got != row.size {
			t.Errorf("Size(%v): %d, want %d", row.v, got, row.size)
		}
		if got := Depth(row.v); got != row.depth {
			t.Errorf("Depth(%v): %d, want %d", row.v, got, row.depth)
		}
		holdAll(t, row.v, modelCopy(row.v))
	}
}

// P13.1: a message's fields.
func TestGetWith(t *testing.T) {
	v := message("r", Field{2, Num(1)}, Field{5, Str("a")}, Field{most, list(Num(1))})
	for number, want := range map[int]Value{
		2: Num(1), 5: Str("a"), most: list(Num(1)),
		1: {}, 3: {}, 6: {}, most - 1: {}, most + 1: {}, 0: {}, -2: {}, math.MinInt: {}, math.MaxInt: {},
	} {
		wantExact(t, "Get of "+strconv.Itoa(number), Get(v, number), want)
	}
	x := table(Pair{Num(1), Num(1)})
	for _, row := range []struct {
		number  int
		x, want Value
	}{
		{1, x, message("r", Field{1, x}, Field{2, Num(1)}, Field{5, Str("a")}, Field{most, list(Num(1))})},
		{2, x, message("r", Field{2, x}, Field{5, Str("a")}, Field{most, list(Num(1))})},
		{3, x, message("r", Field{2, Num(1)}, Field{3, x}, Field{5, Str("a")}, Field{most, list(Num(1))})},
		{5, Str("a"), v},
		{most - 1, x, message("r", Field{2, Num(1)}, Field{5, Str("a")}, Field{most - 1, x}, Field{most, list(Num(1))})},
		{most, x, message("r", Field{2, Num(1)}, Field{5, Str("a")}, Field{most, x})},
		{2, Num(0), message("r", Field{2, Num(0)}, Field{5, Str("a")}, Field{most, list(Num(1))})},
		{1, Value{}, v}, {3, Value{}, v}, {most - 1, Value{}, v},
		{2, Value{}, message("r", Field{5, Str("a")}, Field{most, list(Num(1))})},
		{5, Value{}, message("r", Field{2, Num(1)}, Field{most, list(Num(1))})},
		{most, Value{}, message("r", Field{2, Num(1)}, Field{5, Str("a")})},
		{0, x, v}, {-1, x, v}, {most + 1, x, v}, {math.MinInt, x, v}, {math.MaxInt, x, v}, {0, Value{}, v}, {most + 1, Value{}, v},
	} {
		wantExact(t, "With of "+strconv.Itoa(row.number), With(v, row.number, row.x), row.want)
	}
	wantExact(t, "With of the last field away", With(message("r", Field{1, x}), 1, Value{}), message("r"))
	wantExact(t, "With of a first field", With(message(""), 1, x), message("", Field{1, x}))
	for _, v := range []Value{{}, Num(1), Str("a"), list(Num(1)), x} {
		wantExact(t, "Get of no message", Get(v, 1), Value{})
		wantExact(t, "With of no message", With(v, 1, Num(5)), v)
		wantExact(t, "With of no message, without it", With(v, 1, Value{}), v)
	}
}

// P13.1: a map's pairs.
func TestFindPut(t *testing.T) {
	p := func(n uint64, x Value) Pair { return Pair{Num(n), x} }
	x := message("x")
	v := table(p(2, Num(1)), p(5, Str("a")), p(1<<63, x))
	for n, want := range map[uint64]Value{2: Num(1), 5: Str("a"), 1 << 63: x, 0: {}, 3: {}, 6: {}, 1<<63 - 1: {}, 1<<63 + 1: {}, math.MaxUint64: {}} {
		wantExact(t, "Find of "+strconv.FormatUint(n, 10), Find(v, Num(n)), want)
	}
	for _, key := range []Value{{}, Str(""), Str("\x02"), Str("2"), message(""), list(Num(2)), table(p(2, Num(1)))} {
		wantExact(t, "Find of a key of another kind", Find(v, key), Value{})
	}
	for _, row := range []struct {
		key     uint64
		x, want Value
	}{
		{0, x, table(p(0, x), p(2, Num(1)), p(5, Str("a")), p(1<<63, x))},
		{2, x, table(p(2, x), p(5, Str("a")), p(1<<63, x))},
		{4, x, table(p(2, Num(1)), p(4, x), p(5, Str("a")), p(1<<63, x))},
		{5, Str("a"), v},
		{1 << 63, Num(0), table(p(2, Num(1)), p(5, Str("a")), p(1<<63, Num(0)))},
		{math.MaxUint64, x, table(p(2, Num(1)), p(5, Str("a")), p(1<<63, x), p(math.MaxUint64, x))},
		{0, Value{}, v}, {3, Value{}, v}, {math.MaxUint64, Value{}, v},
		{2, Value{}, table(p(5, Str("a")), p(1<<63, x))},
		{5, Value{}, table(p(2, Num(1)), p(1<<63, x))},
		{1 << 63, Value{}, table(p(2, Num(1)), p(5, Str("a")))},
	} {
		wantExact(t, "Put of "+strconv.FormatUint(row.key, 10), Put(v, Num(row.key), row.x), row.want)
	}
	texts := table(Pair{Str("B"), Num(1)}, Pair{Str("a"), Num(2)})
	wantExact(t, "Find of a text", Find(texts, Str("a")), Num(2))
	wantExact(t, "Find of a number", Find(texts, Num(0)), Value{})
	wantExact(t, "Find of a beginning", Find(texts, Str("")), Value{})
	wantExact(t, "Put of a text", Put(texts, Str("\xff"), x), table(Pair{Str("B"), Num(1)}, Pair{Str("a"), Num(2)}, Pair{Str("\xff"), x}))
	wantExact(t, "Put of a text between", Put(texts, Str("C"), x), table(Pair{Str("B"), Num(1)}, Pair{Str("C"), x}, Pair{Str("a"), Num(2)}))
	wantExact(t, "Put of the last one away", Put(table(p(1, x)), Num(1), Value{}), Value{})
	wantExact(t, "Put of another one away", Put(table(p(1, x)), Num(2), Value{}), table(p(1, x)))
	wantExact(t, "Put into None", Put(Value{}, Str(""), x), table(Pair{Str(""), x}))
	wantExact(t, "Put of None into None", Put(Value{}, Num(1), Value{}), Value{})
	for _, v := range []Value{Num(1), Str("a"), message("r", Field{1, Num(1)}), list(Num(1))} {
		wantExact(t, "Find in no map", Find(v, Num(1)), Value{})
		wantExact(t, "Put into no map", Put(v, Num(1), Num(5)), v)
		wantExact(t, "Put into no map, without it", Put(v, Num(1), Value{}), v)
	}
	// Such a pair makes a map that isn't right, but nothing is told that keeps it away.
	wantExact(t, "Put of a key of another kind", Put(texts, Num(1), x), table(Pair{Num(1), x}, Pair{Str("B"), Num(1)}, Pair{Str("a"), Num(2)}))
	wantExact(t, "Put of no part of a map", Put(Value{}, Num(1), list(Num(1))), table(p(1, list(Num(1)))))
	wantExact(t, "Find in None", Find(Value{}, Num(1)), Value{})
}

// P13.1, P13.2: right values by chance, those that are nearly so, and any values.
func TestByChance(t *testing.T) {
	m := newMaker(1)
	var rights, wrongs, same, less, deep int
	for i := range 60000 {
		a := m.right(3)
		b := m.right(3)
		switch i % 4 {
		case 1:
			b = m.changed(a)
		case 2:
			a, b = m.changed(a), m.changed(a)
		case 3:
			a = m.anything(3)
			b = pick(m, m.anything(2), m.changed(a), modelCopy(a))
		}
		holdAll(t, a, b)
		if i%4 == 0 && !(Right(a) && Right(b)) {
			t.Fatalf("%v, or %v, isn't right", a, b)
		}
		for _, v := range []Value{a, b} {
			if Right(v) {
				rights++
			} else {
				wrongs++
			}
			if Depth(v) > 2 {
				deep++
			}
		}
		if Same(a, b) {
			same++
		} else {
			less++
		}
	}
	if rights < 30000 || wrongs < 20000 || same < 3000 || less < 30000 || deep < 10000 {
		t.Errorf("right %d, not right %d, same %d, not the same %d, deep %d", rights, wrongs, same, less, deep)
	}
}

// P13.1: fields and pairs of right values by chance; what comes of right ones is right.
func TestPartsByChance(t *testing.T) {
	m := newMaker(2)
	hits, gone := 0, 0
	for range 60000 {
		v, x := m.right(2), pick(m, m.right(2), m.right(1), Value{})
		number := pick(m, m.fieldNumber(), m.fieldNumber(), m.fieldNumber(), 0, -1, most+1)
		key := pick(m, Num(m.number()), Str(m.text()))
		if v.Kind == Map {
			if key.Kind != v.Pairs[0].Key.Kind {
				key = v.Pairs[m.IntN(len(v.Pairs))].Key
			}
			wantExact(t, "Find", Find(v, key), modelFind(v, key))
		}
		wantExact(t, "Get", Get(v, number), modelGet(v, number))
		w := With(v, number, x)
		wantExact(t, "With", w, modelWith(v, number, x))
		if x.Kind == List || x.Kind == Map {
			x = one(x)
		}
		p := Put(v, key, x)
		wantExact(t, "Put", p, modelPut(v, key, x))
		if !Right(w) || !Right(p) {
			t.Fatalf("%v: with %v at %d, or at %v, it isn't right", v, x, number, key)
		}
		if Get(v, number).Kind != None || Find(v, key).Kind != None {
			hits++
		}
		if v.Kind == Map && p.Kind == None || v.Kind == Message && len(w.Fields) < len(v.Fields) {
			gone++
		}
		if v.Kind == Message && number > 0 && number <= most && !Same(Get(With(v, number, x), number), x) {
			t.Fatalf("%v at %d of %v isn't there", x, number, v)
		}
		if (v.Kind == Map || v.Kind == None) && !Same(Find(p, key), x) {
			t.Fatalf("%v at %v of %v isn't there", x, key, v)
		}
	}
	if hits < 6000 || gone < 1000 {
		t.Errorf("only %d were there, and %d went", hits, gone)
	}
}

// one is the first value of a list or a map.
func one(v Value) Value {
	if v.Kind == List {
		return v.List[0]
	}
	return v.Pairs[0].Value
}

// P13.2: what comes first comes first of all three: any three values, of which many are nearly the same.
func TestOrderOfThree(t *testing.T) {
	m := newMaker(3)
	alike := 0
	for i := range 40000 {
		a := m.right(3)
		if i%2 == 0 {
			a = m.anything(3)
		}
		list := []Value{a, pick(m, m.changed(a), m.right(3)), pick(m, m.changed(a), modelCopy(a), m.anything(2))}
		for _, a := range list {
			for _, b := range list {
				for _, c := range list {
					ab, bc, ac := Compare(a, b), Compare(b, c), Compare(a, c)
					if ab <= 0 && bc <= 0 && (ac > 0 || ac == 0 && ab+bc < 0) {
						t.Fatalf("%v, %v, %v: %d, %d, but %d", a, b, c, ab, bc, ac)
					}
					if Compare(b, a) != -ab || Same(a, b) != (ab == 0) {
						t.Fatalf("%v, %v: %d, but %d the other way", a, b, ab, Compare(b, a))
					}
				}
			}
			if Compare(a, a) != 0 || !Same(a, modelCopy(a)) {
				t.Fatalf("%v isn't the same as itself", a)
			}
		}
		if Same(list[0], list[2]) {
			alike++
		}
	}
	if alike < 5000 {
		t.Errorf("only %d were the same", alike)
	}
}

// clean tells whether no value in one has what its kind doesn't have.
func clean(v Value) bool {
	return modelClean(v) && !slices.ContainsFunc(modelParts(v), func(x Value) bool { return !clean(x) })
}

// P13.2: values that are the same have one size (and one depth), and are the same all over.
func TestSameSize(t *testing.T) {
	m := newMaker(4)
	same := 0
	for i := range 60000 {
		a := m.right(1)
		b := m.right(1)
		if i%2 == 0 {
			b = m.changed(a)
		}
		if !clean(b) || !Same(a, b) {
			continue
		}
		same++
		if Size(a) != Size(b) || Depth(a) != Depth(b) || !modelExact(a, b) || Right(a) != Right(b) {
			t.Fatalf("%v and %v are the same, of the sizes %d and %d", a, b, Size(a), Size(b))
		}
	}
	if same < 3000 {
		t.Errorf("only %d were the same", same)
	}
}

// roomy is a value whose lists have room behind them, where something stands.
func roomy(v Value) Value {
	v = modelCopy(v)
	for i := range v.Fields {
		v.Fields[i].Value = roomy(v.Fields[i].Value)
	}
	for i := range v.List {
		v.List[i] = roomy(v.List[i])
	}
	for i := range v.Pairs {
		v.Pairs[i] = Pair{roomy(v.Pairs[i].Key), roomy(v.Pairs[i].Value)}
	}
	v.Fields = append(slices.Clip(v.Fields), Field{77, Str("room")}, Field{78, Str("room")})[:len(v.Fields)]
	v.List = append(slices.Clip(v.List), Str("room"), Str("room"))[:len(v.List)]
	v.Pairs = append(slices.Clip(v.Pairs), Pair{Str("room"), Str("room")}, Pair{Str("room"), Num(1)})[:len(v.Pairs)]
	return v
}

// whole is a value with the two members that stand behind each of its lists.
func whole(v Value) Value {
	v.Fields, v.List, v.Pairs = v.Fields[:len(v.Fields)+2], v.List[:len(v.List)+2], v.Pairs[:len(v.Pairs)+2]
	return v
}

// P13.1 and the rules for every call: nothing that is given is changed, nor the room behind its lists; what is answered for a changed value has lists of its own.
func TestNothingIsChanged(t *testing.T) {
	m := newMaker(5)
	for i := range 20000 {
		v, x, key := roomy(m.right(2)), roomy(m.right(2)), roomy(pick(m, Num(m.number()), Str(m.text())))
		if i%4 == 0 {
			v, x, key = roomy(m.anything(2)), roomy(m.anything(2)), roomy(m.anything(1))
		}
		wantV, wantX, wantKey := modelCopy(whole(v)), modelCopy(whole(x)), modelCopy(whole(key))
		number := m.fieldNumber()
		Right(v)
		Compare(v, x)
		Same(x, v)
		Size(v)
		Depth(v)
		Get(v, number)
		Find(v, key)
		with, put := With(v, number, x), Put(v, key, x)
		if v.Kind == Message {
			for i := range with.Fields {
				with.Fields[i] = Field{}
			}
			_ = append(with.Fields, Field{5, Num(5)}, Field{5, Num(5)})
		}
		if v.Kind == Map {
			for i := range put.Pairs {
				put.Pairs[i] = Pair{}
			}
			_ = append(put.Pairs, Pair{Num(5), Num(5)}, Pair{Num(5), Num(5)})
		}
		if !modelExact(whole(v), wantV) || !modelExact(whole(x), wantX) || !modelExact(whole(key), wantKey) {
			t.Fatalf("changed: %v, or %v, or %v", wantV, wantX, wantKey)
		}
	}
}

// The rules for every call: none panics on anything, and the same calls have the same answers.
func TestAnything(t *testing.T) {
	m := newMaker(6)
	for range 40000 {
		v, x, key := m.anything(3), m.anything(2), pick(m, m.anything(1), Num(m.number()), Str(m.text()), Value{})
		number := pick(m, m.fieldNumber(), 0, -1, math.MinInt, math.MaxInt)
		if v.Kind != Message {
			wantExact(t, "Get of no message", Get(v, number), Value{})
			wantExact(t, "With of no message", With(v, number, x), v)
		}
		if v.Kind != Map {
			wantExact(t, "Find of no map", Find(v, key), Value{})
		}
		if v.Kind != Map && v.Kind != None {
			wantExact(t, "Put of no map", Put(v, key, x), v)
		}
		wantExact(t, "Get once more", Get(v, number), Get(modelCopy(v), number))
		wantExact(t, "With once more", With(v, number, x), With(modelCopy(v), number, x))
		wantExact(t, "Find once more", Find(v, key), Find(modelCopy(v), key))
		wantExact(t, "Put once more", Put(v, key, x), Put(modelCopy(v), key, x))
	}
}

// nested is a value with so many parts within one another, of a kind.
func nested(kind, deep int, last Value) Value {
	v := last
	for range deep {
		switch kind {
		case Message:
			v = message("", Field{1, v})
		case List:
			v = list(v)
		case Map:
			v = table(Pair{Num(1), v})
		case None: // where no kind has it
			v = Value{Kind: Number, Pairs: []Pair{{v, Num(1)}}}
		}
	}
	return v
}

// P13.1: as many parts within one another as there may be.
func TestDeep(t *testing.T) {
	const deep = 1<<16 - 1
	for kind, row := range map[int]struct {
		right       bool
		size, depth int
	}{
		Message: {true, deep + 1, deep},
		List:    {false, deep + 1, 0},
		Map:     {false, 2*deep + 1, 0},
		None:    {false, 2*deep + 1, 0},
	} {
		a, b := nested(kind, deep, Num(1)), nested(kind, deep, Num(2))
		want := -1
		if kind == None {
			want = 0
		}
		if Right(a) != row.right || Size(a) != row.size || Depth(a) != row.depth || Compare(a, b) != want || !Same(a, nested(kind, deep, Num(1))) {
			t.Errorf("kind %d: %v, %d, %d, %d, %v", kind, Right(a), Size(a), Depth(a), Compare(a, b), Same(a, a))
		}
	}
	if Right(nested(Message, deep, Value{Kind: 6})) || !Right(nested(Message, 20000, list(nested(Message, 20000, table(Pair{Str(""), message("")}))))) {
		t.Error("Right doesn't look to the end")
	}
}

// P13.1: long lists, maps and messages, each of whose calls goes through them once at most.
func TestLong(t *testing.T) {
	const long = 300000
	start := time.Now()
	l, m, f := list(), table(), message("")
	for i := range long {
		l.List = append(l.List, Num(uint64(long-i)))
		m.Pairs = append(m.Pairs, Pair{Num(uint64(2 * i)), Num(1)})
		f.Fields = append(f.Fields, Field{2*i + 1, Num(1)})
	}
	for _, v := range []Value{l, m, f} {
		if !Right(v) || !Same(v, modelCopy(v)) || Compare(v, Value{Kind: v.Kind}) != 1 {
			t.Errorf("kind %d isn't right, or isn't the same", v.Kind)
		}
	}
	if Size(l) != long+1 || Size(m) != 2*long+1 || Size(f) != long+1 {
		t.Errorf("sizes %d, %d, %d", Size(l), Size(m), Size(f))
	}
	found := 0
	for i := range 2 * long {
		found += int(Find(m, Num(uint64(i))).Number + Get(f, i).Number)
	}
	if found != 2*long {
		t.Errorf("found %d, want %d", found, 2*long)
	}
	m, f = Put(m, Num(long+1), Num(3)), With(f, long, Num(3))
	if len(m.Pairs) != long+1 || len(f.Fields) != long+1 || !Right(m) || !Right(f) {
		t.Errorf("%d pairs, %d fields", len(m.Pairs), len(f.Fields))
	}
	if took := time.Since(start); took > 20*time.Second {
		t.Errorf("it took %v", took)
	}
}
