package code

import (
	"fmt"
	"math"
	"reflect"
	"slices"
	"strconv"
	"strings"
	"testing"
	"time"

	"redline/api"
	"redline/hold"
	"redline/kinds"
	"redline/schema"
	"redline/value"
)

func num(n int64) value.Value { return value.Num(uint64(n)) }

func str(s string) value.Value { return value.Str(s) }

// P18.1: codes, written out: the bytes of a record of the element alone, packed or not; or layer 14's error.
func TestCodeWrittenOut(t *testing.T) {
	s := compiled(t, rich)
	for _, x := range []struct {
		number int
		v      value.Value
		want   string
		err    error
	}{
		{3, num(0), "\x18\x00", nil}, {3, num(300), "\x18\xac\x02", nil}, {3, num(-1), "\x18\xff\xff\xff\xff\xff\xff\xff\xff\xff\x01", nil}, {23, num(300), "\xb8\x01\xac\x02", nil},
		{7, num(-1), "\x38\x01", nil}, {28, num(1), "\xe0\x01\x02", nil}, {9, num(1), "\x4d\x01\x00\x00\x00", nil}, {29, num(1), "\xed\x01\x01\x00\x00\x00", nil}, {1, num(1), "\x09\x01\x00\x00\x00\x00\x00\x00\x00", nil},
		{13, num(1), "\x68\x01", nil}, {16, num(5), "\x80\x01\x05", nil}, {536870911, num(5), "\xf8\xff\xff\xff\x0f\x05", nil},
		{14, str(""), "\x72\x00", nil}, {14, str("ä"), "\x72\x02ä", nil}, {15, str("\xff\x00"), "\x7a\x02\xff\x00", nil},
		{40, message(""), "\xc2\x02\x00", nil}, {40, one(1, num(1)), "\xc2\x02\x02\x08\x02", nil}, {41, one(1, num(1)), "\xca\x02\x02\x08\x02", nil}, {40, message("\xa0\x06\x81\x00"), "\xc2\x02\x04\xa0\x06\x81\x00", nil},
		{3, num(1 << 31), "", api.ErrKind}, {3, str("a"), "", api.ErrKind}, {3, list(num(1)), "", api.ErrKind}, {3, value.Value{}, "", api.ErrKind}, {14, str("\xff"), "", api.ErrRune}, {40, num(1), "", api.ErrKind},
		{40, one(1, num(0)), "", api.ErrKind}, {40, one(99, num(1)), "", api.ErrTag}, {40, message("\x08\x01"), "", api.ErrTag}, {40, message("\x80"), "", api.ErrShort}, {40, message("\x0b"), "", api.ErrGroup},
		{40, one(5, list()), "", api.ErrForm}, {40, one(9, num(1), value.Field{Number: 10, Value: str("a")}), "", api.ErrDup}, {40, one(16, str("\xff")), "", api.ErrRune},
	} {
		f, _ := s.Field(0, x.number)
		wantCode(t, s, f, x.v)
		if got, err := Code(s, f, x.v); got != x.want || !isError(err, x.err) {
			t.Errorf("Code(%d, %v): % x, %v, want % x, %v", x.number, x.v, got, err, x.want, x.err)
		}
	}
}

// keyTypes are the types that a field of a key may have.
func keyTypes() []string {
	return []string{"int32", "int64", "uint32", "uint64", "sint32", "sint64", "fixed32", "fixed64", "sfixed32", "sfixed64", "bool", "string", "E"}
}

// P18.1: keys of each kind that there is, of small and great numbers of the key's field: of elements that have it, beside other fields, and of such as haven't.
func TestKeyKinds(t *testing.T) {
	for _, name := range keyTypes() {
		for _, number := range []int{1, 2, 15, 16, 2047, 2048, 1<<29 - 1} {
			s := compiled(t, fmt.Sprintf("%smessage A { repeated B list = 7 [key = id]; } message B { string up = 3; %s id = %d; int32 n = 1000; bytes b = 3000; } enum E { Z = 0; }", head, name, number))
			f, _ := s.Field(0, 7)
			key, _ := s.Field(f.Type, number)
			choices := []value.Value{{}}
			for _, n := range numbersOf(key.Kind) {
				choices = append(choices, value.Num(n))
			}
			if key.Kind == kinds.String {
				choices = append(choices, str("a"), str("ä"), str("\x00"), str(strings.Repeat("a", 127)), str(strings.Repeat("a", 128)))
			}
			for _, x := range choices {
				if x.Kind == value.Number && x.Number == 0 {
					continue // not held: what isn't there says it
				}
				for _, v := range []value.Value{message(""), message("\xa0\x1f\x01"), one(3, str("z")), one(1000, num(5), value.Field{Number: 3000, Value: str("\xff")})} {
					wantKey(t, s, f, value.With(v, number, x))
				}
			}
		}
	}
}

// P18.1: keys, written out: of the number of the key's field, whatever the element's field is.
func TestKeyWrittenOut(t *testing.T) {
	s := compiled(t, rich)
	for _, x := range []struct {
		number int
		v      value.Value
		want   string
	}{
		{41, message(""), "\x82\x01\x00"}, {41, one(16, str("ab")), "\x82\x01\x02ab"}, {41, one(1, num(5)), "\x82\x01\x00"}, {41, one(1, num(5), value.Field{Number: 16, Value: str("ä")}), "\x82\x01\x02ä"},
		{42, message(""), "\x08\x00"}, {42, one(1, num(-1)), "\x08\x01"}, {42, one(1, num(1)), "\x08\x02"}, {42, one(16, str("ab")), "\x08\x00"}, {42, message("\xa0\x06\x01"), "\x08\x00"},
		{44, message(""), "\xf8\x7f\x00"}, {44, one(2047, num(-1)), "\xf8\x7f\xff\xff\xff\xff\xff\xff\xff\xff\xff\x01"}, {44, one(1, num(1)), "\xf8\x7f\x00"},
	} {
		f, _ := s.Field(0, x.number)
		wantKey(t, s, f, x.v)
		if got, err := Key(s, f, x.v); got != x.want || err != nil {
			t.Errorf("Key(%d, %v): % x, %v, want % x", x.number, x.v, got, err, x.want)
		}
	}
}

// P18.1: a field that tells no key has ErrNone, ahead of what else is wrong; then what isn't held has layer 14's error.
func TestKeyErrors(t *testing.T) {
	s := compiled(t, rich)
	for _, f := range s.Messages[0].Fields {
		for _, v := range append(wrong(), message(""), num(1), str("a")) {
			if f.Key != 0 {
				wantKey(t, s, f, v)
			} else if got, err := Key(s, f, v); got != "" || !isError(err, api.ErrNone) {
				t.Errorf("Key(%v, %v): % x, %v, want %v", f, v, got, err, api.ErrNone)
			}
		}
	}
	for _, x := range []struct {
		number int
		v      value.Value
		want   error
	}{
		{41, value.Value{}, api.ErrKind}, {41, str("ab"), api.ErrKind}, {41, list(message("")), api.ErrKind}, {41, one(16, str("")), api.ErrKind}, {41, one(16, num(1)), api.ErrKind}, {41, one(16, str("\xff")), api.ErrRune},
		{41, one(99, num(1)), api.ErrTag}, {41, message("\x08\x01"), api.ErrTag}, {41, message("\x80"), api.ErrShort}, {41, one(16, str("a"), value.Field{Number: 1, Value: num(1)}), api.ErrForm}, {41, one(9, num(1), value.Field{Number: 10, Value: str("")}), api.ErrDup},
		{42, one(1, num(0)), api.ErrKind}, {42, one(1, num(1), value.Field{Number: 16, Value: str("\xff")}), api.ErrRune}, // right in the key alone
		{40, one(16, str("a")), api.ErrNone}, {3, num(1), api.ErrNone}, {40, one(99, num(1)), api.ErrNone}, {40, value.Value{}, api.ErrNone}, {3, num(1 << 31), api.ErrNone},
	} {
		f, _ := s.Field(0, x.number)
		if got, err := Key(s, f, x.v); got != "" || !isError(err, x.want) {
			t.Errorf("Key(%d, %v): % x, %v, want %v", x.number, x.v, got, err, x.want)
		}
	}
}

// P18.1: codes and keys of lists, in order; the first error alone; of lists without elements none, but for ErrNone.
func TestLists(t *testing.T) {
	s := compiled(t, rich)
	a, b := one(16, str("a")), one(1, num(1), value.Field{Number: 16, Value: str("b")})
	noRune, noTag := one(16, str("\xff")), one(99, num(1))
	for _, x := range []struct {
		number   int
		list     []value.Value
		codes    []string
		keys     []string
		err, key error
	}{
		{41, nil, nil, nil, nil, nil}, {41, []value.Value{}, nil, nil, nil, nil}, {40, nil, nil, nil, nil, api.ErrNone}, {3, []value.Value{}, nil, nil, nil, api.ErrNone},
		{41, []value.Value{b, a, b}, []string{"\xca\x02\x06\x08\x02\x82\x01\x01b", "\xca\x02\x04\x82\x01\x01a", "\xca\x02\x06\x08\x02\x82\x01\x01b"}, []string{"\x82\x01\x01b", "\x82\x01\x01a", "\x82\x01\x01b"}, nil, nil},
		{42, []value.Value{a, b}, []string{"\xd2\x02\x04\x82\x01\x01a", "\xd2\x02\x06\x08\x02\x82\x01\x01b"}, []string{"\x08\x00", "\x08\x02"}, nil, nil},
		{40, []value.Value{message("")}, []string{"\xc2\x02\x00"}, nil, nil, api.ErrNone},
		{3, []value.Value{num(2), num(1), num(2)}, []string{"\x18\x02", "\x18\x01", "\x18\x02"}, nil, nil, api.ErrNone},
		{41, []value.Value{a, noRune, noTag}, nil, nil, api.ErrRune, api.ErrRune}, {41, []value.Value{noTag, a, noRune}, nil, nil, api.ErrTag, api.ErrTag}, {41, []value.Value{a, b, {}}, nil, nil, api.ErrKind, api.ErrKind},
		{40, []value.Value{noTag, noRune}, nil, nil, api.ErrTag, api.ErrNone}, {40, []value.Value{a, noRune, noTag}, nil, nil, api.ErrRune, api.ErrNone},
	} {
		f, _ := s.Field(0, x.number)
		if got, err := Codes(s, f, x.list); !slices.Equal(got, x.codes) || !isError(err, x.err) {
			t.Errorf("Codes(%d, %v): %q, %v, want %q, %v", x.number, x.list, got, err, x.codes, x.err)
		}
		if got, err := Keys(s, f, x.list); !slices.Equal(got, x.keys) || !isError(err, x.key) {
			t.Errorf("Keys(%d, %v): %q, %v, want %q, %v", x.number, x.list, got, err, x.keys, x.key)
		}
		wantAll(t, s, f, x.list)
	}
}

// P18.1: elements by chance, right ones and some wrong ones, of all fields.
func TestMixed(t *testing.T) {
	for seed := range uint64(400) {
		m := newMaker(t, seed)
		for _, f := range m.s.Messages[0].Fields {
			elements := make([]value.Value, m.IntN(6))
			for i := range elements {
				elements[i] = m.part(f.Kind, f.Type, 3)
				if m.IntN(12) == 0 {
					elements[i] = pick(m, wrong()...)
				} else if err := hold.Part(m.s, f, elements[i]); err != nil {
					t.Fatalf("%v doesn't fit %v: %v", elements[i], f, err)
				}
				wantCode(t, m.s, f, elements[i])
				if f.Key != 0 {
					wantKey(t, m.s, f, elements[i])
				}
			}
			wantAll(t, m.s, f, elements)
		}
		if t.Failed() {
			t.Fatal(seed)
		}
	}
}

// P18.1: nothing panics, of whatever schemas and fields.
func TestNoPanic(t *testing.T) {
	s := compiled(t, rich)
	fields := []schema.Field{{}, {Key: 1}, {Key: -1, Kind: kinds.Message}, {Key: 1, Kind: kinds.Message, Type: 99}, {Key: 99, Kind: kinds.Message, Type: 1, Number: -1}, {Key: 1, Kind: kinds.Int32, Label: 99}, {Key: 1, Kind: 99, Type: math.MinInt}}
	for _, of := range []schema.Schema{s, {}, {Messages: make([]schema.Message, 2)}} {
		for _, f := range append(fields, s.Messages[0].Fields...) {
			for _, v := range append(wrong(), message("")) {
				for _, err := range []error{fault(Code(of, f, v)), fault(Key(of, f, v))} {
					if err != nil {
						t.Error(err)
					}
				}
			}
			Codes(of, f, wrong())
			Keys(of, f, wrong())
		}
	}
}

// fault tells of a text beside an error.
func fault(text string, err error) error {
	if err == nil || text == "" {
		return nil
	}
	return fmt.Errorf("% x beside %w", text, err)
}

// texts are such as might be taken for one another.
func texts() []string {
	return []string{"", "a", "A", "aa", "\x00", "\xff", "\xfe", "\ufffd"}
}

// rows are all rows of texts up to a length.
func rows(of []string, length int) [][]string {
	all := [][]string{nil}
	last := all
	for range length {
		var next [][]string
		for _, row := range last {
			for _, text := range of {
				next = append(next, append(slices.Clone(row), text))
			}
		}
		all = append(all, next...)
		last = next
	}
	return all
}

// P18.1: whether no two texts are the same, of all short rows.
func TestUnlike(t *testing.T) {
	for _, row := range append(rows(texts(), 4), []string{}) {
		if got, want := Unlike(row), modelUnlike(row); got != want {
			t.Errorf("Unlike(%q): %t, want %t", row, got, want)
		}
	}
	for _, x := range []struct {
		row  []string
		want bool
	}{
		{nil, true}, {[]string{""}, true}, {[]string{"", ""}, false}, {[]string{"a", "b"}, true}, {[]string{"a", "a"}, false}, {[]string{"a", "b", "c", "a"}, false}, {[]string{"c", "a", "b", "b"}, false}, {[]string{"a", "A", "b", ""}, true}, {[]string{"\xff", "\xfe"}, true},
	} {
		if got := Unlike(x.row); got != x.want {
			t.Errorf("Unlike(%q): %t, want %t", x.row, got, x.want)
		}
	}
}

// P18.1: numbers, written out.
func TestNumberWrittenOut(t *testing.T) {
	wantNumber(t, [][]int{{0, 1, 0}, {1, 2}}, []string{"a", "b", "a"}, []string{"b", "c"}) // the chapter's example
	wantNumber(t, nil)
	wantNumber(t, [][]int{nil}, nil)
	wantNumber(t, [][]int{{}, nil, {}}, nil, []string{}, nil)
	wantNumber(t, [][]int{{0}}, []string{""})
	wantNumber(t, [][]int{nil, {0, 0, 1}, nil, {1, 2, 0}}, nil, []string{"z", "z", "y"}, nil, []string{"y", "x", "z"}) // by their places, not by their order
	wantNumber(t, [][]int{{0, 1, 2, 3, 4, 3}, {5, 1}}, []string{"e", "\xff", "c", "", "a", ""}, []string{"\xfe", "\xff"})
	wantNumber(t, [][]int{{0, 0}, {0}, {1}}, []string{"a", "a"}, []string{"a"}, []string{"b"})
}

// P18.1: numbers of all short rows, as one list, and parted into two and three at all places.
func TestNumber(t *testing.T) {
	for _, row := range rows([]string{"b", "", "a", "\xff"}, 5) {
		wantNumber(t, modelNumber(row), row)
		for i := range len(row) + 1 {
			wantNumber(t, modelNumber(row[:i], row[i:]), row[:i], row[i:])
			for j := range i + 1 {
				wantNumber(t, modelNumber(row[:j], row[j:i], row[i:]), row[:j], row[j:i], row[i:])
			}
		}
		if t.Failed() {
			return
		}
	}
	for _, row := range rows(texts(), 4) {
		wantNumber(t, modelNumber(row, row), row, row)
	}
}

// wantOneCode holds the codes of elements that fit against one another: they are the same just of those elements that are.
func wantOneCode(t *testing.T, s schema.Schema, f schema.Field, elements []value.Value) (same int) {
	t.Helper()
	codes, err := Codes(s, f, elements)
	if err != nil || len(codes) != len(elements) {
		t.Fatalf("Codes(%v, %v): %q, %v", f, elements, codes, err)
	}
	for i := range elements {
		for j := range i {
			if got, want := codes[i] == codes[j], value.Same(elements[i], elements[j]); got != want {
				t.Fatalf("%v and %v have one code: %t, but are the same: %t", elements[i], elements[j], got, want)
			} else if got {
				same++
			}
		}
	}
	return same
}

// P18.2: all edges of numbers, of each kind, and texts and messages that are like one another.
func TestOneCode(t *testing.T) {
	s := compiled(t, rich)
	for _, f := range s.Messages[0].Fields {
		var elements []value.Value
		for _, n := range append(edges(), edges()...) {
			elements = append(elements, value.Num(n))
		}
		for _, text := range append(texts(), "a\x00", "\x72\x00", "\x72\x01a") {
			elements = append(elements, str(text), one(16, str(text)), one(2, str(text)), one(10, str(text)), one(7, value.Put(value.Value{}, str(text), message(""))), one(12, list(str(text))), one(12, list(str(text), str(""))))
		}
		elements = append(elements, wrong()...)
		for _, inner := range []value.Value{message(""), one(1, num(1)), message("\xa0\x06\x01"), message("\xa0\x06\x81\x00"), one(3, message("")), one(11, message("")), one(11, one(1, num(1)))} {
			elements = append(elements, inner, one(3, inner), one(11, inner), one(7, value.Put(value.Value{}, str(""), inner)), one(13, list(inner)), one(13, list(inner, inner)))
		}
		elements = append(elements, one(5, list(num(0))), one(5, list(num(0), num(0))), one(6, list(num(0))), one(6, list(num(0), num(0))), one(6, list(num(-1), num(0))), one(6, list(num(0), num(-1))), one(4, num(0)), one(4, num(1)), one(9, num(0)))
		elements = slices.DeleteFunc(elements, func(v value.Value) bool { return hold.Part(s, f, v) != nil })
		if len(elements) < 2 {
			t.Errorf("%v: %d elements", f, len(elements))
		}
		wantOneCode(t, s, f, append(elements, elements...))
	}
}

// P18.2: elements by chance, many of which are the same.
func TestOneCodeByChance(t *testing.T) {
	same := 0
	for seed := range uint64(60) {
		m := newMaker(t, seed)
		for _, f := range m.s.Messages[0].Fields {
			elements := make([]value.Value, 60)
			for i := range elements {
				elements[i] = m.part(f.Kind, f.Type, 2)
			}
			same += wantOneCode(t, m.s, f, elements)
		}
	}
	if same < 1000 {
		t.Errorf("only %d pairs were the same", same)
	}
}

// P18.2: elements that are the same have one code, whatever their lists without elements are, and what their kind doesn't have.
func TestSameAnotherWay(t *testing.T) {
	s := compiled(t, rich)
	f, _ := s.Field(0, 40)
	v := one(5, list(num(1)))
	w := value.Value{Kind: value.Message, List: []value.Value{}, Pairs: []value.Pair{}, Fields: append(make([]value.Field, 0, 9), value.Field{Number: 5, Value: value.Value{Kind: value.List, Fields: []value.Field{}, List: []value.Value{{Kind: value.Number, Number: 1, List: []value.Value{}}}}})}
	wantOneCode(t, s, f, []value.Value{v, w, message(""), {Kind: value.Message, Fields: []value.Field{}}})
	number, _ := s.Field(0, 3)
	wantOneCode(t, s, number, []value.Value{num(1), {Kind: value.Number, Number: 1, Text: "a"}, num(2)})
}

// P18.1: nothing that is given is changed, nor the room behind it; what is answered is the caller's alone.
func TestApart(t *testing.T) {
	s := compiled(t, rich)
	f, _ := s.Field(0, 41)
	made := func() []value.Value {
		elements := make([]value.Value, 3, 9)
		copy(elements, []value.Value{one(16, str("a")), one(5, list(num(1), num(2))), message("\xa0\x06\x01")})
		return elements
	}
	elements := made()
	for _, all := range []func(s schema.Schema, f schema.Field, list []value.Value) ([]string, error){Codes, Keys} {
		first, _ := all(s, f, elements)
		want, whole := slices.Clone(first), first[:cap(first)]
		for i := range whole {
			whole[i] = "zz"
		}
		if again, _ := all(s, f, elements); !slices.Equal(again, want) || len(want) != 3 {
			t.Errorf("an answer was changed: %q, want %q", again, want)
		}
	}
	if !reflect.DeepEqual(elements, made()) || !reflect.DeepEqual(elements[3:cap(elements)], make([]value.Value, cap(elements)-3)) || !schema.Same(s, compiled(t, rich)) {
		t.Errorf("something was changed: %v", elements[:cap(elements)])
	}
	room := []string{"a", "b", "a", "c", "d"}
	lists := [][]string{room[:2], room[2:3], room[:3], nil, {}}
	Unlike(room[:3])
	numbers := Number(lists...)
	for i := range numbers {
		whole := numbers[i][:cap(numbers[i])]
		for j := range whole {
			whole[j] = -7 - i
		}
	}
	for i, list := range numbers {
		if len(list) != len(lists[i]) || slices.ContainsFunc(list, func(n int) bool { return n != -7-i }) {
			t.Errorf("two lists share numbers: %v", numbers)
		}
	}
	if !slices.Equal(room, []string{"a", "b", "a", "c", "d"}) || len(lists) != 5 || len(lists[2]) != 3 {
		t.Errorf("texts were changed: %q, %q", room, lists)
	}
	wantNumber(t, [][]int{{0, 1}, {0}, {0, 1, 0}, nil, nil}, lists...)
}

// P18.1: long lists and deep elements, in a time that grows as they do.
func TestLongAndDeep(t *testing.T) {
	s := compiled(t, rich)
	begun := time.Now()
	long := make([]string, 1<<19)
	for i := range long {
		long[i] = strconv.Itoa(i)
	}
	if !Unlike(long) || Unlike(append(slices.Clone(long), long[len(long)-1])) {
		t.Error("long rows aren't told apart")
	}
	for i, list := range Number(long, long, long[1:]) {
		for j, n := range list {
			if n != j+i/2 {
				t.Fatalf("list %d of long ones: %d at %d", i, n, j)
			}
		}
	}
	f, _ := s.Field(0, 42)
	elements := make([]value.Value, 1<<16)
	for i := range elements {
		elements[i] = one(1, num(int64(i+1)))
	}
	codes, err := Codes(s, f, elements)
	keys, keyErr := Keys(s, f, elements)
	if err != nil || keyErr != nil || !Unlike(codes) || !Unlike(keys) || len(codes) != len(elements) || len(keys) != len(elements) {
		t.Errorf("long lists: %d, %v, %d, %v", len(codes), err, len(keys), keyErr)
	}
	v := one(1, num(1))
	for range 1 << 15 {
		v = one(3, v)
	}
	v = value.Value{Kind: value.Message, Fields: append([]value.Field{{Number: 1, Value: num(2)}}, v.Fields...)}
	if key, err := Key(s, f, v); err != nil || key != "\x08\x04" {
		t.Errorf("the key of a deep one: % x, %v", key, err)
	}
	wantCode(t, s, f, v)
	if took := time.Since(begun); took > 20*time.Second {
		t.Errorf("it took %v", took)
	}
}
