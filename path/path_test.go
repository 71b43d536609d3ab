package path

import (
	"errors"
	"fmt"
	"math"
	"reflect"
	"slices"
	"strings"
	"testing"
	"time"

	"redline/api"
	"redline/value"
)

func num(n uint64) value.Value { return value.Num(n) }

func str(s string) value.Value { return value.Str(s) }

// short is a thing as a text that isn't too long.
func short(x any) string { return fmt.Sprintf("%.300v", fmt.Sprintf("%+v", x)) }

// P17.1: the kinds' numbers.
func TestKinds(t *testing.T) {
	got := []int{Field, Key, Index, Rest, Span, Oneof}
	if !slices.Equal(got, []int{1, 2, 3, 4, 5, 6}) {
		t.Errorf("kinds: %v", got)
	}
}

// P17.1: the chapter's example.
func TestExample(t *testing.T) {
	p := Path{field(1), key(str("a")), index(2)}
	if got := Text(p); got != ".1{'61'}[2]" {
		t.Errorf("Text: %q", got)
	}
	v := message("", at(1, table(pair(str("a"), num(7)))))
	if got, is := Get(v, p[:2]); !is || !reflect.DeepEqual(got, num(7)) {
		t.Errorf("Get: %v, %v", got, is)
	}
}

var allBytes = func() string {
	var b []byte
	for c := range 256 {
		b = append(b, byte(c))
	}
	return string(b)
}()

// P17.1, P17.2: right paths and their texts, written out.
var texts = []struct {
	p    Path
	text string
}{
	{nil, ""},
	{Path{field(0)}, ".0"},
	{Path{field(1)}, ".1"},
	{Path{field(10)}, ".10"},
	{Path{field(536870911)}, ".536870911"},
	{Path{field(most)}, ".1073741824"},
	{Path{key(num(0))}, "{0}"},
	{Path{key(num(9))}, "{9}"},
	{Path{key(num(most + 1))}, "{1073741825}"},
	{Path{key(num(1 << 63))}, "{9223372036854775808}"},
	{Path{key(num(math.MaxUint64))}, "{18446744073709551615}"},
	{Path{key(str(""))}, "{''}"},
	{Path{key(str("a"))}, "{'61'}"},
	{Path{key(str("\x00\x0f\xf0\xff"))}, "{'000ff0ff'}"},
	{Path{key(str("'}{.1"))}, "{'277d7b2e31'}"},
	{Path{key(str("\xc3\xa4"))}, "{'c3a4'}"},
	{Path{key(str("1"))}, "{'31'}"},
	{Path{key(str(strings.Repeat("k", 4096)))}, "{'" + strings.Repeat("6b", 4096) + "'}"},
	{Path{key(str(allBytes))}, fmt.Sprintf("{'%x'}", allBytes)},
	{Path{index(0)}, "[0]"},
	{Path{index(2)}, "[2]"},
	{Path{index(most)}, "[1073741824]"},
	{Path{rest()}, "~"},
	{Path{span(0, 0)}, "[0:0]"},
	{Path{span(0, 1)}, "[0:1]"},
	{Path{span(9, 10)}, "[9:10]"},
	{Path{span(0, most)}, "[0:1073741824]"},
	{Path{span(most, most)}, "[1073741824:1073741824]"},
	{Path{oneof(0)}, "|0"},
	{Path{oneof(12)}, "|12"},
	{Path{oneof(most)}, "|1073741824"},
	{Path{field(1), field(2)}, ".1.2"},
	{Path{rest(), rest()}, "~~"},
	{Path{index(1), span(1, 2), index(3)}, "[1][1:2][3]"},
	{Path{key(num(1)), key(str("b")), oneof(4), rest(), field(5)}, "{1}{'62'}|4~.5"},
}

func TestTexts(t *testing.T) {
	for _, x := range texts {
		if !Right(x.p) {
			t.Errorf("Right of %s is false", short(x.text))
		}
		if got := Text(x.p); got != x.text {
			t.Errorf("Text: %s, want %s", short(got), short(x.text))
		}
		wantPath(t, x.text, x.p)
	}
	if !Right(Path{}) || Text(Path{}) != "" {
		t.Error("a path without steps isn't as nil")
	}
}

func wantPath(t *testing.T, text string, want Path) {
	t.Helper()
	got, err := Parse(text)
	if err != nil {
		t.Errorf("Parse of %s: %v", short(text), err)
		return
	}
	if len(got) != len(want) || len(want) > 0 && !reflect.DeepEqual(got, want) {
		t.Errorf("Parse of %s: %s, want %s", short(text), short(got), short(want))
	}
}

func wantForm(t *testing.T, text string) {
	t.Helper()
	p, err := Parse(text)
	if err == nil || !errors.Is(err, api.ErrForm) {
		t.Errorf("Parse of %s: %v, want ErrForm", short(text), err)
	}
	if len(p) > 0 {
		t.Errorf("Parse of %s: %s beside an error", short(text), short(p))
	}
}

// P17.1: texts that are no right path's.
func TestWrongTexts(t *testing.T) {
	for _, text := range []string{
		" ", "a", "1", "0", "\x00", "\xff", "x.1", ".", "..", ".1.", ". 1", ".1 ", " .1", ".-1", ".+1", ".01", ".00", ".1a", ".a", ".0x1", ".1_0", ".1073741825", ".18446744073709551617", ".99999999999999999999999",
		"|", "|01", "|-1", "|1073741825", "||1",
		"~0", "~1", "~ ", "0~",
		"{", "}", "{}", "{1", "1}", "{01}", "{00}", "{-1}", "{+1}", "{ 1}", "{1 }", "{1}}", "{{1}", "{1_0}", "{0x1}", "{a}", "{61}{", "{18446744073709551616}", "{99999999999999999999999}", "{1:2}", "{1.5}", "{1e3}",
		"{'}", "{'", "{''", "{'6'}", "{'616'}", "{'61}", "{61'}", "{'61''}", "{''61'}", "{'6g'}", "{'g6'}", "{'6A'}", "{'A6'}", "{'6 '}", "{'+1'}", "{'0x'}", "{\"61\"}", "{'61'", "{'61' }", "{ '61'}", "{'6\xff'}", "{'6-'}", "{'./'}", "{'6:'}", "{'6`'}", "{'@6'}",
		"{'" + strings.Repeat("6b", 4097) + "'}", "{'" + strings.Repeat("6b", 5000) + "'}", "{'" + strings.Repeat("6", 8191) + "'}",
		"[", "]", "[]", "[1", "1]", "[01]", "[-1]", "[+1]", "[ 1]", "[1 ]", "[1]]", "[[1]", "[a]", "['61']", "[1073741825]", "[1:", "[:", "[:]", "[1:]", "[:1]", "[2:1]", "[1:0]", "[1:1073741825]", "[1073741825:1073741825]", "[01:1]", "[1:01]", "[0:00]", "[1:2:3]", "[1::2]", "[-1:1]", "[1:-1]", "[1:+2]", "[1: 2]", "[1,2]", "[9223372036854775807:9223372036854775808]",
		".1{'61'}[2", ".1{'61'}[2]x", ".1{'61'[2]", ".1'61'}[2]",
	} {
		wantForm(t, text)
	}
	for _, x := range texts {
		if x.text != "" {
			wantForm(t, x.text+"x")
			wantForm(t, "x"+x.text)
			wantForm(t, x.text+"\x00")
		}
	}
}

// P17.1: paths with one wrong thing aren't right, and have no text.
func TestRight(t *testing.T) {
	number, text := num(1), str("a")
	for _, s := range []Step{
		{}, {Kind: 7}, {Kind: -1}, {Kind: math.MaxInt}, {Kind: math.MinInt}, {Number: 1},
		field(-1), field(most + 1), field(math.MaxInt), field(math.MinInt), {Kind: 1, Number: 1, To: 1}, {Kind: 1, To: -1}, {Kind: 1, Key: number}, {Kind: 1, Key: text}, {Kind: 1, Key: empty()},
		key(value.Value{}), key(empty()), key(list(number)), key(table(pair(number, number))), key(value.Value{Kind: 6}), key(value.Value{Kind: -1}),
		key(value.Value{Kind: 1, Text: "a"}), key(value.Value{Kind: 1, Rest: "a"}), key(value.Value{Kind: 2, Number: 1}), key(value.Value{Kind: 2, List: []value.Value{number}}), key(value.Value{Kind: 1, Fields: []value.Field{at(1, number)}}), key(value.Value{Kind: 2, Pairs: []value.Pair{pair(number, number)}}),
		key(str(strings.Repeat("a", 4097))), {Kind: 2, Number: 1, Key: number}, {Kind: 2, Number: -1, Key: text}, {Kind: 2, To: 1, Key: number}, {Kind: 2, Number: most + 1, To: most + 1, Key: text},
		index(-1), index(most + 1), index(math.MaxInt), index(math.MinInt), {Kind: 3, Number: 1, To: 1}, {Kind: 3, Number: 1, To: 2}, {Kind: 3, To: -1}, {Kind: 3, Key: number}, {Kind: 3, Key: text},
		{Kind: 4, Number: 1}, {Kind: 4, Number: -1}, {Kind: 4, To: 1}, {Kind: 4, Key: text}, {Kind: 4, Key: number},
		span(-1, 0), span(-2, -1), span(1, 0), span(0, -1), span(most, most+1), span(most+1, most+1), span(0, math.MaxInt), span(math.MinInt, 0), span(math.MinInt, math.MaxInt), span(math.MaxInt, math.MinInt), span(1, math.MinInt), {Kind: 5, To: 1, Key: number}, {Kind: 5, Key: text},
		oneof(-1), oneof(most + 1), oneof(math.MaxInt), oneof(math.MinInt), {Kind: 6, Number: 1, To: 1}, {Kind: 6, Key: number}, {Kind: 6, Key: text},
		{Kind: 1, Key: value.Value{Number: 1}}, {Kind: 3, Key: value.Value{Text: "a"}}, {Kind: 4, Key: value.Value{Rest: "a"}}, // None has nothing
	} {
		for _, p := range []Path{{s}, {s, field(1)}, {field(1), s}, {rest(), s, index(1)}} {
			if Right(p) {
				t.Errorf("Right of %s", short(p))
			}
			if got := Text(p); got != "" {
				t.Errorf("Text of %s: %q", short(p), got)
			}
		}
	}
}

// house is a value of all kinds.
func house() value.Value {
	return message("rest",
		at(1, num(7)),
		at(2, str("two")),
		at(3, list(num(1), str("b"), message("c", at(1, num(9))))),
		at(4, table(pair(num(0), num(5)), pair(num(3), message("", at(1, list(str(""))))))), // the message holds a list of an empty Text

		at(5, table(pair(str(""), str("e")), pair(str("k"), num(0)))),
		at(536870911, empty()),
	)
}

// P17.1: what there is at paths, written out.
func TestGet(t *testing.T) {
	v := house()
	for _, x := range []struct {
		text string
		want value.Value
	}{
		{"", v},
		{".1", num(7)}, {".2", str("two")}, {".3", v.Fields[2].Value}, {".4", v.Fields[3].Value}, {".536870911", empty()},
		{".3[0]", num(1)}, {".3[1]", str("b")}, {".3[2]", message("c", at(1, num(9)))}, {".3[2].1", num(9)},
		{".4{0}", num(5)}, {".4{3}.1[0]", str("")}, {".5{''}", str("e")}, {".5{'6b'}", num(0)},
		{"~", str("rest")}, {".3[2]~", str("c")}, {".536870911~", str("")}, {".4{3}~", str("")},
		{".3[0:1]", list(num(1))}, {".3[1:3]", list(str("b"), message("c", at(1, num(9))))}, {".3[0:3]", v.Fields[2].Value},
		{".3[0:0]", value.Value{}}, {".3[1:1]", value.Value{}}, {".3[3:3]", value.Value{}},
		{".3[1:3][0]", str("b")}, {".3[1:3][1].1", num(9)}, {".3[1:3][1:2]", list(message("c", at(1, num(9))))}, {".3[1:3][2:2]", value.Value{}},
	} {
		p := parsed(t, x.text)
		if got, is := Get(v, p); !is || !reflect.DeepEqual(got, x.want) {
			t.Errorf("Get at %s: %s, %v, want %s", x.text, short(got), is, short(x.want))
		}
	}
}

func parsed(t *testing.T, text string) Path {
	t.Helper()
	p, err := Parse(text)
	if err != nil {
		t.Fatalf("Parse of %s: %v", text, err)
	}
	return p
}

// P17.1: where there is nothing.
func TestGetNothing(t *testing.T) {
	v := house()
	for _, text := range []string{
		".0", ".6", ".536870910", ".536870912", ".1073741824", "{0}", "{'6b'}", "[0]", "[0:0]", "[0:1]", "|1", "|0", "|3",
		".1.1", ".1[0]", ".1{7}", ".1~", ".1[0:0]", ".1|1", ".2[0]", ".2{'74'}", ".2~", ".2.1", ".2[0:1]",
		".3.1", ".3{0}", ".3{1}", ".3~", ".3[3]", ".3[1073741824]", ".3[0:4]", ".3[4:4]", ".3[2:4]", ".3[3:4]", ".3[1073741824:1073741824]", ".3|1",
		".3[0:0][0]", ".3[1:1][0:0]", ".3[0:0]~", ".3[0:0].1", ".3[1:1]|1", ".3[1:3][2]", ".3[1:3][3:3]", ".3[0:0][0:0]",
		".4{1}", ".4{4}", ".4{''}", ".4{'00'}", ".4[0]", ".4.3", ".4~", ".4[0:0]", ".4[0:1]", ".4{3}.2", ".4{3}.1[1]",
		".5{0}", ".5{'61'}", ".5{'6b6b'}", ".5{'6c'}", ".5[0]",
		"~~", "~.1", "~[0]", "~{0}", "~[0:0]", ".6.1", ".6~",
	} {
		wantNothing(t, v, parsed(t, text))
	}
	for _, x := range []value.Value{{}, {Number: 5, Text: "x"}, num(1), str(""), list(num(1)), table(pair(num(1), num(1)))} {
		wantNothing(t, x, Path{field(1)})
		wantNothing(t, x, Path{rest()})
		wantNothing(t, x, Path{index(1)})
		wantNothing(t, x, Path{span(2, 2)})
	}
	wantNothing(t, value.Value{}, nil)
	wantNothing(t, value.Value{Number: 5, Text: "x", Fields: v.Fields, List: []value.Value{v}}, nil)
	wantNothing(t, value.Value{List: []value.Value{v}}, Path{index(0)})
}

func wantNothing(t *testing.T, v value.Value, p Path) {
	t.Helper()
	if got, is := Get(v, p); is || !reflect.DeepEqual(got, value.Value{}) {
		t.Errorf("Get at %s of %s: %s, %v, want nothing", short(p), short(v), short(got), is)
	}
}

// P17.1: numbers, kinds and keys that no right path has lead to nothing.
func TestGetWrong(t *testing.T) {
	v := list(num(1), num(2))
	for _, n := range []int{-1, -2, 3, 4, math.MaxInt, math.MinInt, 1 << 32, -1 << 32} {
		wantNothing(t, v, Path{index(n)})
		wantNothing(t, house(), Path{field(3), index(n)})
		wantNothing(t, v, Path{span(n, -1)})
		wantNothing(t, v, Path{span(n, math.MinInt)})
		wantNothing(t, v, Path{span(n, math.MaxInt)})
		wantNothing(t, v, Path{span(0, n), index(0)})
	}
	for _, n := range []int{0, -1, math.MaxInt, math.MinInt, 1<<32 + 1} {
		wantNothing(t, house(), Path{field(n)})
	}
	for _, kind := range []int{0, -1, 6, 7, math.MaxInt, math.MinInt} {
		for _, x := range []value.Value{v, house(), num(1), str("a"), table(pair(num(1), num(2)))} {
			wantNothing(t, x, Path{{Kind: kind}})
			wantNothing(t, x, Path{{Kind: kind, Number: 1, To: 1, Key: num(1)}})
		}
	}
	for _, s := range []Step{span(1, 0), span(2, 1), span(-1, 0), span(-1, 2), span(3, 3), span(0, 3), {}, oneof(0)} {
		wantNothing(t, v, Path{s})
	}
	full := value.Value{Fields: house().Fields, List: v.List, Pairs: []value.Pair{pair(num(1), num(2))}, Rest: "r"}
	ways := map[int]Path{3: {field(1)}, 4: {index(0)}, 5: {key(num(1))}}
	for kind := range 7 { // what a value's kind doesn't have isn't there
		full.Kind = kind
		for of, p := range ways {
			if of != kind {
				wantNothing(t, full, p)
			}
		}
	}
	wantNothing(t, list(value.Value{}, num(1)), Path{index(0)}) // no part is None
	wantNothing(t, message("", at(1, value.Value{Text: "x"})), Path{field(1)})
	wantNothing(t, table(pair(num(1), value.Value{Number: 1})), Path{key(num(1))})
	m := table(pair(num(1), num(2)))
	for _, k := range []value.Value{{}, empty(), list(num(1)), m, {Kind: 9}, {Kind: -1}, {Number: 1}} {
		wantNothing(t, m, Path{key(k)})
	}
}

// P17.1: the paths to all values, written out.
func TestAll(t *testing.T) {
	wantAll(t, house(), "", ".1", ".2", ".3", ".3[0]", ".3[1]", ".3[2]", ".3[2].1", ".4", ".4{0}", ".4{3}", ".4{3}.1", ".4{3}.1[0]", ".5", ".5{''}", ".5{'6b'}", ".536870911")
	wantAll(t, num(0), "")
	wantAll(t, str("a"), "")
	wantAll(t, empty(), "")
	wantAll(t, message("rest"), "")
	wantAll(t, list(num(1), num(1)), "", "[0]", "[1]")
	wantAll(t, table(pair(str("a"), list(num(1)))), "", "{'61'}", "{'61'}[0]")
	if got := All(value.Value{}); len(got) != 0 {
		t.Errorf("All of None: %v", got)
	}
	if got := All(value.Value{Number: 1, Fields: house().Fields, List: []value.Value{num(1)}}); len(got) != 0 {
		t.Errorf("All of None with parts that it doesn't have: %v", got)
	}
	wantAll(t, value.Value{Kind: value.Number, Fields: house().Fields, List: []value.Value{num(1)}, Pairs: []value.Pair{pair(num(1), num(1))}}, "")
	wantAll(t, value.Value{Kind: value.List, Fields: house().Fields, List: []value.Value{num(1)}}, "", "[0]")
	wantAll(t, list(value.Value{}, num(1), value.Value{}), "", "[1]")
	wantAll(t, message("", at(1, value.Value{}), at(2, num(1))), "", ".2")
	wantAll(t, table(pair(num(1), value.Value{}), pair(num(2), num(1))), "", "{2}")
}

func wantAll(t *testing.T, v value.Value, want ...string) {
	t.Helper()
	got := []string{}
	for _, p := range All(v) {
		got = append(got, Text(p))
	}
	if !slices.Equal(got, want) {
		t.Errorf("All of %s: %q, want %q", short(v), got, want)
	}
}

// P17.1: Same and Begins, step by step.
func TestSame(t *testing.T) {
	rows := []string{"", ".1", ".2", "[1]", "|1", "{1}", "{'01'}", "{'31'}", "~", "[1:1]", "[1:2]", "[0:1]", ".1.1", ".1[1]", "[1][1]", "~~", ".1~", "~.1", "{1}{1}", "{1}{2}", ".1.1.1"}
	for _, a := range rows {
		for _, b := range rows {
			p, q := parsed(t, a), parsed(t, b)
			if got := Same(p, q); got != (a == b) {
				t.Errorf("Same of %s and %s: %v", a, b, got)
			}
			// Of these rows a step's text is never a beginning of another step's.
			if got := Begins(p, q); got != strings.HasPrefix(b, a) {
				t.Errorf("Begins of %s and %s: %v", a, b, got)
			}
		}
	}
	if !Same(nil, Path{}) || !Same(Path{}, nil) || !Begins(nil, Path{}) || !Begins(Path{}, nil) {
		t.Error("a path without steps isn't as nil")
	}
	if !Begins(parsed(t, ".1"), parsed(t, ".1.2")[:1:2]) || Begins(parsed(t, ".1.2"), parsed(t, ".1.2")[:1]) {
		t.Error("Begins looks behind a path's end")
	}
}

// P17.1: wrong paths are held against each other by their steps, too, and keys by layer 13's Same.
func TestSameWrong(t *testing.T) {
	for _, x := range []struct {
		a, b Step
		want bool
	}{
		{Step{Kind: 1, Number: 1, To: 1}, field(1), false},
		{Step{Kind: 9}, Step{Kind: 9}, true},
		{Step{Kind: 9}, Step{Kind: 8}, false},
		{Step{Kind: 4, To: 1}, rest(), false},
		{Step{Kind: 4, Number: 1}, rest(), false},
		{Step{Kind: 1, Key: num(1)}, Step{Kind: 1}, false},
		{Step{Kind: 1, Key: num(1)}, Step{Kind: 1, Key: num(1)}, true},
		{key(num(1)), key(num(2)), false},
		{key(str("a")), key(str("b")), false},
		{key(num(0)), key(str("")), false},
		{key(num(0)), key(value.Value{}), false},
		{key(value.Value{Kind: 1, Number: 1, Text: "x"}), key(num(1)), true},
		{key(list(num(1))), key(list(num(1))), true},
		{key(list(num(1))), key(list(num(2))), false},
		{key(message("a")), key(message("b")), false},
	} {
		if got := Same(Path{x.a}, Path{x.b}); got != x.want {
			t.Errorf("Same of %s and %s: %v", short(x.a), short(x.b), got)
		}
		if got := Begins(Path{x.a}, Path{x.b, rest()}); got != x.want {
			t.Errorf("Begins of %s and %s: %v", short(x.a), short(x.b), got)
		}
	}
}

// P17.1, P17.2: all short texts of signs that matter to one another, against the model.
func TestShortTexts(t *testing.T) {
	const all = ".{}[]~|:'0129afAg-"
	right := 0
	var walk func(text string, left int)
	walk = func(text string, left int) {
		want, is := modelParse(text)
		if !is {
			wantForm(t, text)
		} else {
			right++
			wantPath(t, text, want)
			if got := Text(want); got != text {
				t.Errorf("Text: %q, want %q", got, text)
			}
		}
		for i := range len(all) {
			if left > 0 {
				walk(text+all[i:i+1], left-1)
			}
		}
	}
	walk("", 4)
	for _, ahead := range []string{"{'", "[1:", "{'0", "[0:1"} {
		walk(ahead, 3)
	}
	if right < 300 {
		t.Errorf("only %d right texts", right)
	}
}

// P17.1, P17.2: paths by chance, right and spoiled, against the model.
func TestChancePaths(t *testing.T) {
	right := 0
	for seed := range uint64(40000) {
		m := newMaker(seed)
		p := m.path(5)
		wantModel(t, p)
		q := m.changed(p)
		wantModel(t, q)
		wantPair(t, p, q)
		wantPair(t, p, m.path(2))
		wantPair(t, p[:m.IntN(len(p)+1)], q)
		if modelRight(q) {
			right++
		}
	}
	if right < 10000 || right > 30000 {
		t.Errorf("%d of the changed paths are right", right)
	}
}

func wantModel(t *testing.T, p Path) {
	t.Helper()
	if got, want := Right(p), modelRight(p); got != want {
		t.Fatalf("Right of %s: %v, want %v", short(p), got, want)
	}
	text := modelText(p)
	if got := Text(p); got != text {
		t.Fatalf("Text of %s: %s, want %s", short(p), short(got), short(text))
	}
	if modelRight(p) {
		wantPath(t, text, p)
	}
}

func wantPair(t *testing.T, p, q Path) {
	t.Helper()
	if got, want := Same(p, q), modelSame(p, q); got != want {
		t.Fatalf("Same of %s and %s: %v, want %v", short(p), short(q), got, want)
	}
	if got, want := Begins(p, q), modelBegins(p, q); got != want {
		t.Fatalf("Begins of %s and %s: %v, want %v", short(p), short(q), got, want)
	}
	if got, want := Begins(q, p), modelBegins(q, p); got != want {
		t.Fatalf("Begins of %s and %s: %v, want %v", short(q), short(p), got, want)
	}
}

// P17.1: texts of paths by chance with a sign changed, gone or more, against the model.
func TestChanceTexts(t *testing.T) {
	const signs = ".{}[]~|:'0123456789abcdefABCDEFgx+-_ \x00\xff"
	for seed := range uint64(40000) {
		m := newMaker(seed)
		b := []byte(modelText(m.path(4)))
		for range 1 + m.IntN(2) {
			i, sign := m.IntN(len(b)+1), signs[m.IntN(len(signs))]
			switch {
			case i == len(b) || m.IntN(3) == 0:
				b = slices.Insert(b, i, sign)
			case m.IntN(2) == 0:
				b = slices.Delete(b, i, i+1)
			default:
				b[i] = sign
			}
		}
		want, is := modelParse(string(b))
		if is {
			wantPath(t, string(b), want)
		} else {
			wantForm(t, string(b))
		}
	}
}

// P17.1, P17.2: values by chance, and paths that lead into them, or nearly so, against the model.
func TestChanceValues(t *testing.T) {
	found := 0
	for seed := range uint64(1500) {
		m := newMaker(seed)
		v := m.right(3)
		if !value.Right(v) {
			t.Fatalf("a maker's value isn't right: %s", short(v))
		}
		wantAllModel(t, v)
		for range 30 {
			if wantGet(t, v, m.near(v)) {
				found++
			}
		}
		mixed := m.shuffled(v) // it may not be right any more, but each path leads to one value yet
		wantAllModel(t, mixed)
		wantGet(t, mixed, m.near(v))
	}
	if found < 10000 || found > 40000 {
		t.Errorf("something was found %d times", found)
	}
}

func wantGet(t *testing.T, v value.Value, p Path) bool {
	t.Helper()
	want, is := modelGet(v, p)
	got, found := Get(v, p)
	if found != is || !reflect.DeepEqual(got, want) {
		t.Fatalf("Get at %s of %s: %s, %v, want %s, %v", short(p), short(v), short(got), found, short(want), is)
	}
	return found
}

func wantAllModel(t *testing.T, v value.Value) {
	t.Helper()
	got, want := All(v), modelAll(v)
	if !slices.EqualFunc(got, want, modelSame) {
		t.Fatalf("All of %s: %s, want %s", short(v), short(got), short(want))
	}
	for _, p := range got {
		if !wantGet(t, v, p) {
			t.Fatalf("nothing is found under %s of %s", short(p), short(v))
		}
		if !Right(p) {
			t.Fatalf("%s isn't right", short(p))
		}
	}
}

// P17.2: of values that aren't right, too, something is found under each of All's paths, and nothing panics.
func TestAnything(t *testing.T) {
	for seed := range uint64(20000) {
		m := newMaker(seed)
		v := m.anything(3)
		all := All(v)
		if len(all) > value.Size(v) {
			t.Fatalf("All of %s has %d paths of %d values", short(v), len(all), value.Size(v))
		}
		for _, p := range all {
			if x, is := Get(v, p); !is || x.Kind == 0 {
				t.Fatalf("Get at %s of %s: nothing", short(p), short(v))
			}
		}
		for range 4 {
			p := m.changed(m.path(3))
			if x, is := Get(v, p); !is && !reflect.DeepEqual(x, value.Value{}) {
				t.Fatalf("Get at %s of %s: %s beside a false", short(p), short(v), short(x))
			}
		}
	}
}

// P17.2: two that have one step in a value that isn't right: only what is found there is gone through, once.
func TestTwice(t *testing.T) {
	v := num(1)
	for range 40 {
		v = message("", at(1, v), at(1, v))
		v = table(pair(str("a"), v), pair(str("a"), v))
	}
	if got := len(All(v)); got != 81 {
		t.Errorf("All of 40 messages and maps, each within the other: %d", got)
	}
}

// P17.1: no call changes what it is given, nor the room behind it, and what comes of it is apart.
func TestApart(t *testing.T) {
	v, same := house(), house()
	got, _ := Get(v, parsed(t, ".3[0:2]"))
	_ = append(got.List, num(99))
	all, want := All(v), modelAll(v)
	for i, p := range all {
		if !modelSame(p, want[i]) {
			t.Fatal("two of All's paths share their steps")
		}
		p = append(p, index(99))
		for j := range p {
			p[j] = index(99)
		}
	}
	if !reflect.DeepEqual(v, same) || !slices.EqualFunc(All(v), want, modelSame) {
		t.Error("a value has changed")
	}
	room := append(make(Path, 0, 8), field(1), field(2))
	behind := room[:8]
	behind[2], behind[3] = index(5), index(6)
	keep := slices.Clone(behind)
	Text(room)
	Right(room)
	Same(room, room)
	Begins(room, room)
	Get(v, room)
	if !reflect.DeepEqual(behind, keep) {
		t.Error("a path has changed, or the room behind it")
	}
}

// P17.1, P17.2: long paths and wide values take a time that grows as they do, or nearly so.
func TestLong(t *testing.T) {
	begin := time.Now()
	var p Path
	for range 20000 {
		p = append(p, field(1), key(str("key")), index(2), span(3, 4), oneof(5), rest(), key(num(6)))
	}
	text := Text(p)
	if q, err := Parse(text); err != nil || !Same(p, q) || !Begins(p[:100000], q) {
		t.Errorf("a path of %d steps isn't parsed from its text: %v", len(p), err)
	}
	for _, sign := range []string{".", "{", "[", "'", "1", "{'", "[1:", ".1{", "9999999999", "{}"} {
		wantForm(t, strings.Repeat(sign, 300000))
	}
	wide := message("", at(1, list()), at(2, table()))
	for i := range 50000 {
		wide.Fields[0].Value.List = append(wide.Fields[0].Value.List, num(1))
		wide.Fields[1].Value.Pairs = append(wide.Fields[1].Value.Pairs, pair(num(uint64(i)), num(1)))
	}
	for i := range 50000 {
		wide.Fields = append(wide.Fields, at(i+3, num(1)))
	}
	all := All(wide)
	if len(all) != 150003 {
		t.Errorf("All: %d paths", len(all))
	}
	for _, p := range all {
		if _, is := Get(wide, p); !is {
			t.Fatalf("Get at %v: nothing", p)
		}
	}
	if took := time.Since(begin); took > 20*time.Second {
		t.Errorf("it took %v", took)
	}
}

// P17.1, P17.2: values that go deep.
func TestDeep(t *testing.T) {
	v := num(1)
	for range 600 {
		v = message("", at(1, v))
	}
	all := All(v)
	if len(all) != 601 || len(all[600]) != 600 {
		t.Fatalf("All: %d paths", len(all))
	}
	if x, is := Get(v, all[600]); !is || x.Number != 1 {
		t.Errorf("Get: %s, %v", short(x), is)
	}
	v = num(1)
	var p Path
	for range 65535 {
		v, p = list(v), append(p, index(0))
	}
	if x, is := Get(v, p); !is || x.Number != 1 {
		t.Errorf("Get: %s, %v", short(x), is)
	}
}
