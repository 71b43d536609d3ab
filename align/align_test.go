package align

import (
	"math"
	"reflect"
	"slices"
	"strconv"
	"testing"
	"time"

	"redline/api"
	"redline/hold"
	"redline/kinds"
	"redline/schema"
	"redline/value"
)

// P20.1: the kinds, as they are told.
func TestKinds(t *testing.T) {
	if Keep != 1 || Into != 2 || Drop != 3 || Put != 4 {
		t.Error(Keep, Into, Drop, Put)
	}
}

// P20.1: steps of texts, written out.
func TestTextsWrittenOut(t *testing.T) {
	for _, x := range []struct {
		a, b []string
		want []Step
	}{
		{[]string{"a", "b"}, []string{"b", "c"}, []Step{{Drop, 0, 0}, {Keep, 1, 0}, {Put, 2, 1}}}, // the chapter's example
		{nil, nil, nil}, {[]string{}, nil, nil}, {nil, []string{}, nil},
		{[]string{"a"}, nil, []Step{{Drop, 0, 0}}}, {nil, []string{"a", ""}, []Step{{Put, 0, 0}, {Put, 0, 1}}}, {[]string{""}, []string{""}, []Step{{Keep, 0, 0}}},
		{[]string{"a"}, []string{"b"}, []Step{{Drop, 0, 0}, {Put, 1, 0}}},
		{[]string{"a", "b"}, []string{"c", "d"}, []Step{{Drop, 0, 0}, {Drop, 1, 0}, {Put, 2, 0}, {Put, 2, 1}}},
		{[]string{"a", "b"}, []string{"b", "a"}, []Step{{Drop, 0, 0}, {Keep, 1, 0}, {Put, 2, 1}}},
		{[]string{"a", "a", "b"}, []string{"a", "b"}, []Step{{Keep, 0, 0}, {Drop, 1, 1}, {Keep, 2, 1}}}, // the first of like ones
		{[]string{"a", "b"}, []string{"a", "a", "b"}, []Step{{Keep, 0, 0}, {Put, 1, 1}, {Keep, 1, 2}}},
		{[]string{"x", "a", "y", "b"}, []string{"a", "z", "b", "w"}, []Step{{Drop, 0, 0}, {Keep, 1, 0}, {Drop, 2, 1}, {Put, 3, 1}, {Keep, 3, 2}, {Put, 4, 3}}},
		{[]string{"a", "\xff", "A", ""}, []string{"A", "\xfe", ""}, []Step{{Drop, 0, 0}, {Drop, 1, 0}, {Keep, 2, 0}, {Put, 3, 1}, {Keep, 3, 2}}}, // told apart byte by byte
	} {
		wantTexts(t, x.a, x.b)
		if got := Texts(x.a, x.b); !slices.Equal(got, x.want) {
			t.Errorf("Texts(%q, %q): %v, want %v", x.a, x.b, got, x.want)
		}
	}
}

// P20.1, P20.2: all short rows of texts.
func TestTextsShort(t *testing.T) {
	for _, rows := range [][][]string{shortRows([]string{"b", "", "\xff"}, 4), shortRows([]string{"a", "A"}, 6)} {
		for _, a := range rows {
			for _, b := range rows {
				wantTexts(t, a, b)
			}
		}
		if t.Failed() {
			t.FailNow()
		}
	}
}

// textsOfNumbers are numbers as texts.
func textsOfNumbers(numbers []int) []string {
	var texts []string
	for _, n := range numbers {
		texts = append(texts, strconv.Itoa(n))
	}
	return texts
}

// P20.1, P20.2: texts at both sides of the greatest distance by which layer 19 aligns, with both ends and something between in common.
func TestTextsAtTheBound(t *testing.T) {
	for _, dropped := range []int{0, 1, 199, 200, 201, 400, 401, 450} {
		for edits := 398; edits <= 403; edits++ {
			if dropped > edits {
				continue
			}
			a, b := row(0, dropped), row(1000, 1000+edits-dropped)
			both := row(2000, 2003)
			for _, x := range [][2][]int{
				{a, b}, {slices.Concat(both, a, both), slices.Concat(both, b, both)}, {slices.Concat(both, a[:len(a)/2], both, a[len(a)/2:]), slices.Concat(both, b[:len(b)/3], both, b[len(b)/3:])},
			} {
				wantTexts(t, textsOfNumbers(x[0]), textsOfNumbers(x[1]))
			}
		}
	}
	both, a, b := textsOfNumbers(row(2000, 2002)), textsOfNumbers(row(0, 200)), textsOfNumbers(row(1000, 1201))
	for _, x := range []struct {
		drop, put int // of the last ones
		kept      int
	}{{200, 200, 6}, {200, 201, 4}} {
		got := Texts(slices.Concat(both, a[:100], both, a[100:x.drop], both), slices.Concat(both, b[:100], both, b[100:x.put], both))
		if Kept(got) != x.kept {
			t.Errorf("of rows of %d and %d there are %d kept, want %d", x.drop, x.put, Kept(got), x.kept)
		}
	}
}

// P20.1: steps of lists, written out, and whether they are aligned by keys.
func TestListsWrittenOut(t *testing.T) {
	s := compiled(t, rich)
	a, b, c, d := element(1, ""), element(2, ""), element(3, ""), element(1, "more")
	none, only := message(""), one(2, str("more"))
	s1, n1 := one(16, str("1")), one(1, num(1))
	for _, x := range []struct {
		number int
		a, b   []value.Value
		want   []Step
		keyed  bool
	}{
		{10, []value.Value{a, b}, []value.Value{b, c}, []Step{{Drop, 0, 0}, {Keep, 1, 0}, {Put, 2, 1}}, false},
		{11, []value.Value{a, b}, []value.Value{b, c}, []Step{{Drop, 0, 0}, {Keep, 1, 0}, {Put, 2, 1}}, true},
		{10, nil, nil, nil, false}, {11, nil, nil, nil, true}, {11, []value.Value{}, []value.Value{}, nil, true}, {1, nil, nil, nil, false},
		{11, []value.Value{a}, nil, []Step{{Drop, 0, 0}}, true}, {11, nil, []value.Value{a, b}, []Step{{Put, 0, 0}, {Put, 0, 1}}, true},
		{1, []value.Value{num(0), num(1), num(0)}, []value.Value{num(1), num(0), num(0)}, []Step{{Drop, 0, 0}, {Keep, 1, 0}, {Keep, 2, 1}, {Put, 3, 2}}, false},
		{2, []value.Value{str("a"), str("")}, []value.Value{str("")}, []Step{{Drop, 0, 0}, {Keep, 1, 0}}, false},
		// What has one key is changed to its fellow, or stays, if it is the same.
		{11, []value.Value{a, b}, []value.Value{d, b}, []Step{{Into, 0, 0}, {Keep, 1, 1}}, true}, {12, []value.Value{a, b}, []value.Value{d, b}, []Step{{Into, 0, 0}, {Keep, 1, 1}}, true},
		{10, []value.Value{a, b}, []value.Value{d, b}, []Step{{Drop, 0, 0}, {Put, 1, 0}, {Keep, 1, 1}}, false}, // no key is told
		{11, []value.Value{b, a, c}, []value.Value{d, c}, []Step{{Drop, 0, 0}, {Into, 1, 0}, {Keep, 2, 1}}, true}, {11, []value.Value{a, c}, []value.Value{b, d, c}, []Step{{Put, 0, 0}, {Into, 0, 1}, {Keep, 1, 2}}, true},
		// One list with a key twice, and none is by keys, in whichever list it is.
		{11, []value.Value{a, b, a}, []value.Value{d, b}, []Step{{Drop, 0, 0}, {Put, 1, 0}, {Keep, 1, 1}, {Drop, 2, 2}}, false}, {11, []value.Value{d, b}, []value.Value{a, b, a}, []Step{{Drop, 0, 0}, {Put, 1, 0}, {Keep, 1, 1}, {Put, 2, 2}}, false},
		{11, []value.Value{a, d}, []value.Value{d}, []Step{{Drop, 0, 0}, {Keep, 1, 0}}, false}, {11, []value.Value{d}, []value.Value{d, a}, []Step{{Keep, 0, 0}, {Put, 1, 1}}, false}, {11, []value.Value{a, d}, []value.Value{a, d}, []Step{{Keep, 0, 0}, {Keep, 1, 1}}, false},
		{11, []value.Value{a, b, a}, nil, []Step{{Drop, 0, 0}, {Drop, 1, 0}, {Drop, 2, 0}}, false}, {11, nil, []value.Value{b, b}, []Step{{Put, 0, 0}, {Put, 0, 1}}, false},
		// An element without a key has one, too: 0, or an empty text.
		{11, []value.Value{none}, []value.Value{only}, []Step{{Into, 0, 0}}, true}, {12, []value.Value{none, a}, []value.Value{only, d}, []Step{{Into, 0, 0}, {Into, 1, 1}}, true}, {12, []value.Value{none, only}, []value.Value{only, d}, []Step{{Drop, 0, 0}, {Keep, 1, 0}, {Put, 2, 1}}, false},
		// By the field of the key alone.
		{11, []value.Value{s1}, []value.Value{d}, []Step{{Into, 0, 0}}, true}, {12, []value.Value{s1}, []value.Value{d}, []Step{{Drop, 0, 0}, {Put, 1, 0}}, true}, {12, []value.Value{n1}, []value.Value{d}, []Step{{Into, 0, 0}}, true}, {11, []value.Value{n1}, []value.Value{d}, []Step{{Drop, 0, 0}, {Put, 1, 0}}, true},
		{11, []value.Value{s1, n1}, []value.Value{n1, d}, []Step{{Drop, 0, 0}, {Keep, 1, 0}, {Put, 2, 1}}, true}, {12, []value.Value{s1, n1}, []value.Value{n1, d}, []Step{{Drop, 0, 0}, {Keep, 1, 0}, {Put, 2, 1}}, false},
		// Rests tell elements apart, too.
		{11, []value.Value{a}, []value.Value{message("\xa0\x1f\x01", a.Fields...)}, []Step{{Into, 0, 0}}, true}, {11, []value.Value{message("\xa0\x1f\x01", a.Fields...)}, []value.Value{message("\xa0\x1f\x81\x00", a.Fields...)}, []Step{{Into, 0, 0}}, true}, {10, []value.Value{a}, []value.Value{message("\xa0\x1f\x01", a.Fields...)}, []Step{{Drop, 0, 0}, {Put, 1, 0}}, false},
	} {
		f, _ := s.Field(0, x.number)
		wantLists(t, s, f, x.a, x.b)
		if got, err := Lists(s, f, x.a, x.b); !slices.Equal(got, x.want) || err != nil {
			t.Errorf("Lists(%d, %v, %v): %v, %v, want %v", x.number, x.a, x.b, got, err, x.want)
		}
		if got, err := Keyed(s, f, x.a, x.b); got != x.keyed || err != nil {
			t.Errorf("Keyed(%d, %v, %v): %t, %v, want %t", x.number, x.a, x.b, got, err, x.keyed)
		}
	}
}

// fitting are those values that fit a field.
func fitting(s schema.Schema, f schema.Field, of ...value.Value) []value.Value {
	return slices.DeleteFunc(of, func(v value.Value) bool { return hold.Part(s, f, v) != nil })
}

// P20.1, P20.2: all short lists of elements of which some have one key, of each field.
func TestListsShort(t *testing.T) {
	s := compiled(t, rich)
	e, b, x := one(2047, num(1)), one(2, num(1)), one(3, num(1))
	choices := []value.Value{num(0), num(1), str(""), str("a"), element(1, ""), element(1, "more"), message(""), e, b, x, one(2, num(1), value.Field{Number: 2047, Value: num(1)}), one(1, list(num(1)))}
	for _, f := range s.Messages[0].Fields {
		fit := fitting(s, f, slices.Clone(choices)...)
		if len(fit) < 2 {
			t.Fatalf("%v: %d elements", f, len(fit))
		}
		lists := shortRows(fit, 3)
		if len(fit) > 4 {
			lists = shortRows(fit, 2)
		}
		for _, a := range lists {
			for _, b := range lists {
				wantLists(t, s, f, a, b)
			}
		}
		if t.Failed() {
			t.FailNow()
		}
	}
}

// P20.1, P20.2: lists by chance, of all fields, many of which come of one another; with keys that are unlike, and not.
func TestListsByChance(t *testing.T) {
	keyed, into, twice := 0, 0, 0
	for seed := range uint64(150) {
		m := newMaker(t, seed)
		for _, f := range m.s.Messages[0].Fields {
			of := pick(m, 1, 2, 3, 60)
			made := func() value.Value { return m.part(f.Kind, of, f.Type, 3) }
			a := m.changed(nil, m.IntN(30), made)
			b := m.changed(a, m.IntN(12), made)
			if m.IntN(5) == 0 {
				b = m.changed(nil, m.IntN(30), made)
			}
			if f.Key != 0 && m.IntN(4) > 0 {
				a, b = unlike(m.s, f, a), unlike(m.s, f, b)
			}
			is := wantLists(t, m.s, f, a, b)
			steps, _ := Lists(m.s, f, a, b)
			switch {
			case is && slices.ContainsFunc(steps, func(step Step) bool { return step.Kind == Into }):
				into++
			case is:
				keyed++
			case f.Key != 0:
				twice++
			}
		}
		if t.Failed() {
			t.Fatal(seed)
		}
	}
	if min(keyed, into, twice) < 50 {
		t.Errorf("few lists: %d by keys, %d with changes, %d with a key twice", keyed, into, twice)
	}
}

// P20.1, P20.2: long lists that are too far apart, by keys and by codes: what both begin and end with is kept, or changed, and nothing between.
func TestListsFar(t *testing.T) {
	s := compiled(t, rich)
	ends := func(more string, keys ...int) []value.Value {
		return slices.Concat([]value.Value{element(901, ""), element(902, more)}, elements(keys...), []value.Value{element(903, more), element(904, "")})
	}
	between := []int{905, 906}
	for _, x := range []struct {
		put  int
		kept int // between
	}{{200, 2}, {201, 0}} {
		a := ends("a", slices.Concat(row(1, 101), between, row(101, 201))...)
		b := ends("b", slices.Concat(row(301, 401), between, row(401, 301+x.put))...)
		for _, number := range []int{10, 11, 12} {
			f, _ := s.Field(0, number)
			wantLists(t, s, f, a, b)
		}
		f, _ := s.Field(0, 11)
		steps, _ := Lists(s, f, a, b)
		if Kept(steps) != 4+x.kept || steps[0].Kind != Keep || steps[1].Kind != Into || steps[len(steps)-2] != (Step{Into, 204, 4 + x.put}) || steps[len(steps)-1].Kind != Keep {
			t.Errorf("%d of long lists are kept, want %d: %v", Kept(steps), 4+x.kept, steps)
		}
	}
}

// P20.1: the first list's error is told ahead of the other's, and nothing else beside it.
func TestListsErrors(t *testing.T) {
	s := compiled(t, rich)
	right, noRune, noTag := element(1, ""), one(16, str("\xff")), one(99, num(1))
	for _, x := range []struct {
		a, b []value.Value
		want error
	}{
		{[]value.Value{noRune}, nil, api.ErrRune}, {nil, []value.Value{noRune}, api.ErrRune}, {[]value.Value{noTag}, []value.Value{noRune}, api.ErrTag}, {[]value.Value{noRune}, []value.Value{noTag}, api.ErrRune},
		{[]value.Value{right, right, noTag, noRune}, []value.Value{noRune}, api.ErrTag}, {[]value.Value{right, right}, []value.Value{right, noRune, noTag}, api.ErrRune}, {[]value.Value{right, {}}, []value.Value{noRune}, api.ErrKind},
		{[]value.Value{right}, []value.Value{one(3, list())}, api.ErrForm}, {[]value.Value{one(4, num(1), value.Field{Number: 5, Value: str("a")})}, []value.Value{noRune}, api.ErrDup}, {[]value.Value{right}, []value.Value{message("\x80")}, api.ErrShort},
		{[]value.Value{one(1, num(0))}, []value.Value{noRune}, api.ErrKind}, {[]value.Value{right, num(1)}, []value.Value{right}, api.ErrKind},
	} {
		for _, number := range []int{10, 11, 12} {
			f, _ := s.Field(0, number)
			if steps, err := Lists(s, f, x.a, x.b); len(steps) != 0 || !isError(err, x.want) {
				t.Errorf("Lists(%d, %v, %v): %v, %v, want %v", number, x.a, x.b, steps, err, x.want)
			}
			if keyed, err := Keyed(s, f, x.a, x.b); keyed || !isError(err, x.want) {
				t.Errorf("Keyed(%d, %v, %v): %t, %v, want %v", number, x.a, x.b, keyed, err, x.want)
			}
		}
	}
}

// P20.1: of each field and each value that doesn't fit it layer 14's error, whichever list it is in.
func TestListsWrong(t *testing.T) {
	s := compiled(t, rich)
	for _, f := range s.Messages[0].Fields {
		fit := fitting(s, f, num(1), str("a"), message(""))
		for _, v := range wrong() {
			want := hold.Part(s, f, v)
			for _, lists := range [][2][]value.Value{{{v}, fit}, {fit, {v}}, {append(slices.Clone(fit), v), nil}, {{v}, {v}}} {
				_, err := Lists(s, f, lists[0], lists[1])
				keyed, keyedErr := Keyed(s, f, lists[0], lists[1])
				if !isError(err, want) || !isError(keyedErr, want) || want != nil && keyed {
					t.Errorf("%v, %v: %v, %v, want %v", f, lists, err, keyedErr, want)
				}
			}
		}
	}
}

// P20.1: how many are kept or changed, of all short steps, written out, and of kinds that there aren't.
func TestKept(t *testing.T) {
	var kinds []Step
	for _, kind := range []int{math.MinInt, -1, 0, Keep, Into, Drop, Put, 5, math.MaxInt} {
		kinds = append(kinds, Step{kind, kind, -kind})
	}
	for _, steps := range append(shortRows(kinds, 4), []Step{}) {
		if got, want := Kept(steps), modelKept(steps); got != want {
			t.Errorf("Kept(%v): %d, want %d", steps, got, want)
		}
	}
	for _, x := range []struct {
		steps []Step
		want  int
	}{
		{nil, 0}, {[]Step{{Keep, 0, 0}}, 1}, {[]Step{{Into, 0, 0}}, 1}, {[]Step{{Drop, 0, 0}, {Put, 1, 0}}, 0}, {[]Step{{Drop, 0, 0}, {Keep, 1, 0}, {Into, 2, 1}, {Put, 3, 2}, {Keep, 3, 3}}, 3}, {[]Step{{}, {5, 0, 0}, {-1, 0, 0}}, 0},
	} {
		if got := Kept(x.steps); got != x.want {
			t.Errorf("Kept(%v): %d, want %d", x.steps, got, x.want)
		}
	}
}

// P20.1: nothing panics, of whatever schemas and fields, and beside an error there is nothing.
func TestNoPanic(t *testing.T) {
	s := compiled(t, rich)
	fields := []schema.Field{{}, {Key: 1}, {Key: -1, Kind: kinds.Message}, {Key: 1, Kind: kinds.Message, Type: 99}, {Key: 99, Kind: kinds.Message, Type: 1, Number: -1}, {Key: 1, Kind: kinds.Int32, Label: 99}, {Key: 1, Kind: 99, Type: math.MinInt}}
	for _, of := range []schema.Schema{s, {}, {Messages: make([]schema.Message, 2)}} {
		for _, f := range append(slices.Clone(fields), s.Messages[0].Fields...) {
			for _, v := range append(wrong(), message("")) {
				for _, lists := range [][2][]value.Value{{{v}, {v}}, {nil, {v}}, {{v}, nil}, {{v, v}, wrong()}} {
					steps, err := Lists(of, f, lists[0], lists[1])
					keyed, keyedErr := Keyed(of, f, lists[0], lists[1])
					if err != nil && len(steps) > 0 || keyedErr != nil && keyed || (err == nil) != (keyedErr == nil) {
						t.Errorf("%v, %v: %v, %v and %t, %v", f, lists, steps, err, keyed, keyedErr)
					}
				}
			}
		}
	}
}

// P20.1: nothing that is given is changed, nor the room behind it; what is answered is the caller's alone.
func TestApart(t *testing.T) {
	s := compiled(t, rich)
	f, _ := s.Field(0, 11)
	made := func() []value.Value {
		room := make([]value.Value, 6, 9)
		copy(room, []value.Value{element(1, ""), element(2, "a"), element(3, ""), element(4, "b"), element(2, "c"), element(5, "")})
		return room
	}
	room, textRoom := made(), []string{"a", "b", "c", "a", "d", "b"}
	steps := append(make([]Step, 0, 5), Step{Drop, 0, 0}, Step{Into, 1, 0})
	for range 2 {
		lists, err := Lists(s, f, room[:4:4], room[2:6])
		more, moreErr := Lists(s, f, room[:4], room[1:3])
		if err != nil || moreErr != nil || Kept(lists) != 2 || Kept(more) != 2 {
			t.Fatalf("%v, %v, %v, %v", lists, err, more, moreErr)
		}
		Keyed(s, f, room[:4], room[2:6])
		for _, answer := range [][]Step{lists, more, Texts(textRoom[:3], textRoom[1:4]), Texts(textRoom[:3], textRoom[:3]), Texts(nil, textRoom[:3])} {
			whole := answer[:cap(answer)]
			for i := range whole {
				whole[i] = Step{9, 9, 9}
			}
		}
		Kept(steps)
	}
	if !reflect.DeepEqual(room[:cap(room)], made()[:cap(room)]) || !slices.Equal(textRoom, []string{"a", "b", "c", "a", "d", "b"}) || !schema.Same(s, compiled(t, rich)) {
		t.Errorf("something was changed: %v, %q", room[:cap(room)], textRoom)
	}
	if !slices.Equal(steps[:5], []Step{{Drop, 0, 0}, {Into, 1, 0}, {}, {}, {}}) {
		t.Errorf("steps were changed: %v", steps[:5])
	}
	wantLists(t, s, f, room[:4], room[2:6])
	wantTexts(t, textRoom[:3], textRoom[1:4])
}

// P20.1: elements that are the same are kept, whatever lists without elements they have.
func TestSameAnotherWay(t *testing.T) {
	s := compiled(t, rich)
	v := one(16, str("a"))
	w := value.Value{Kind: value.Message, List: []value.Value{}, Pairs: []value.Pair{}, Fields: append(make([]value.Field, 0, 9), value.Field{Number: 16, Value: value.Value{Kind: value.Text, Text: "a", Fields: []value.Field{}}})}
	for _, number := range []int{10, 11, 12} {
		f, _ := s.Field(0, number)
		if got, err := Lists(s, f, []value.Value{v}, []value.Value{w}); !slices.Equal(got, []Step{{Keep, 0, 0}}) || err != nil {
			t.Errorf("Lists(%d, %v, %v): %v, %v", number, v, w, got, err)
		}
	}
}

// P20.1, P20.2: long lists and deep elements, in a time that grows as they do.
func TestLongAndDeep(t *testing.T) {
	begun := time.Now()
	s := compiled(t, rich)
	long := textsOfNumbers(row(0, 1<<19))
	other := slices.Concat(long[:1000], []string{"x"}, long[1001:300000], []string{"y", "z"}, long[300000:500000], long[500007:])
	got := Texts(long, other)
	wantPlaces(t, got, len(long), len(other))
	if Kept(got) != len(long)-8 || got[1000] != (Step{Drop, 1000, 1000}) || got[1001] != (Step{Put, 1001, 1000}) || got[300001] != (Step{Put, 300000, 300000}) {
		t.Errorf("of long rows are %d kept", Kept(got))
	}
	wantPlaces(t, Texts(long, nil), len(long), 0)
	wantPlaces(t, Texts(long[:1<<18], long[1<<18:]), 1<<18, 1<<18)
	f, _ := s.Field(0, 12)
	var a, b []value.Value
	for i := range 1 << 16 {
		a = append(a, one(1, num(uint64(i+1))))
		b = append(b, one(1, num(uint64(i+1)), value.Field{Number: 2, Value: str("x")}))
	}
	b = slices.Concat(b[:7], a[7:60000], b[60001:])
	steps, err := Lists(s, f, a, b)
	keyed, keyedErr := Keyed(s, f, a, b)
	wantPlaces(t, steps, len(a), len(b))
	if err != nil || keyedErr != nil || !keyed || Kept(steps) != len(b) || steps[6].Kind != Into || steps[7].Kind != Keep || steps[59999].Kind != Keep || steps[60000] != (Step{Drop, 60000, 60000}) || steps[60001] != (Step{Into, 60001, 60000}) {
		t.Errorf("of long lists are %d kept: %v, %t, %v", Kept(steps), err, keyed, keyedErr)
	}
	v, w := one(1, num(1)), one(1, num(2))
	for range 1 << 14 {
		v, w = one(8, v), one(8, w)
	}
	if got, err := Lists(s, f, []value.Value{v}, []value.Value{w}); !slices.Equal(got, []Step{{Into, 0, 0}}) || err != nil {
		t.Errorf("deep elements: %v, %v", got, err)
	}
	if took := time.Since(begun); took > 20*time.Second {
		t.Errorf("it took %v", took)
	}
}
