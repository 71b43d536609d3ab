package encode

import (
	"bytes"
	"encoding/binary"
	"math"
	"reflect"
	"slices"
	"strings"
	"testing"
	"time"

	"redline/api"
	"redline/hold"
	"redline/kinds"
	"redline/schema"
	"redline/value"
)

func message(rest string, fields ...value.Field) value.Value {
	return value.Value{Kind: value.Message, Fields: fields, Rest: rest}
}

// one is a message of one field.
func one(number int, v value.Value) value.Value {
	return message("", value.Field{Number: number, Value: v})
}

// both is a message of two fields.
func both(a int, x value.Value, b int, y value.Value) value.Value {
	return message("", value.Field{Number: a, Value: x}, value.Field{Number: b, Value: y})
}

func list(values ...value.Value) value.Value { return value.Value{Kind: value.List, List: values} }

func numbers(all ...int64) value.Value {
	v := list()
	for _, n := range all {
		v.List = append(v.List, num(n))
	}
	return v
}

func pair(key, v value.Value) value.Pair { return value.Pair{Key: key, Value: v} }

func table(pairs ...value.Pair) value.Value { return value.Value{Kind: value.Map, Pairs: pairs} }

func num(n int64) value.Value { return value.Num(uint64(n)) }

func str(s string) value.Value { return value.Str(s) }

// all has a field of each kind, by the kind's number.
const all = head + `message A { double a = 1; float b = 2; int32 c = 3; int64 d = 4; uint32 e = 5; uint64 f = 6; sint32 g = 7; sint64 h = 8;
  fixed32 i = 9; fixed64 j = 10; sfixed32 k = 11; sfixed64 l = 12; bool m = 13; string n = 14; bytes o = 15; E p = 16; A q = 17; } enum E { Z = 0; }`

// P15.1: a record of each kind, alone.
func TestKinds(t *testing.T) {
	s := compiled(t, all)
	for _, x := range []struct {
		number int
		v      value.Value
		want   string
	}{
		{1, num(1), "\x09\x01\x00\x00\x00\x00\x00\x00\x00"},
		{1, value.Num(math.Float64bits(-1)), "\x09\x00\x00\x00\x00\x00\x00\xf0\xbf"},
		{1, value.Num(1 << 63), "\x09\x00\x00\x00\x00\x00\x00\x00\x80"},
		{2, num(int64(math.Float32bits(1))), "\x15\x00\x00\x80\x3f"},
		{2, num(1 << 31), "\x15\x00\x00\x00\x80"},
		{3, num(1), "\x18\x01"},
		{3, num(300), "\x18\xac\x02"},
		{3, num(-1), "\x18\xff\xff\xff\xff\xff\xff\xff\xff\xff\x01"},
		{3, num(math.MinInt32), "\x18\x80\x80\x80\x80\xf8\xff\xff\xff\xff\x01"},
		{3, num(math.MaxInt32), "\x18\xff\xff\xff\xff\x07"},
		{4, num(-2), "\x20\xfe\xff\xff\xff\xff\xff\xff\xff\xff\x01"},
		{4, num(math.MaxInt64), "\x20\xff\xff\xff\xff\xff\xff\xff\xff\x7f"},
		{5, num(math.MaxUint32), "\x28\xff\xff\xff\xff\x0f"},
		{6, num(-1), "\x30\xff\xff\xff\xff\xff\xff\xff\xff\xff\x01"},
		{7, num(1), "\x38\x02"},
		{7, num(-1), "\x38\x01"},
		{7, num(math.MinInt32), "\x38\xff\xff\xff\xff\x0f"},
		{7, num(math.MaxInt32), "\x38\xfe\xff\xff\xff\x0f"},
		{8, num(-64), "\x40\x7f"},
		{8, num(64), "\x40\x80\x01"},
		{8, num(math.MinInt64), "\x40\xff\xff\xff\xff\xff\xff\xff\xff\xff\x01"},
		{9, num(math.MaxUint32), "\x4d\xff\xff\xff\xff"},
		{9, num(258), "\x4d\x02\x01\x00\x00"},
		{10, num(258), "\x51\x02\x01\x00\x00\x00\x00\x00\x00"},
		{11, num(-2), "\x5d\xfe\xff\xff\xff"},
		{11, num(math.MinInt32), "\x5d\x00\x00\x00\x80"},
		{12, num(-2), "\x61\xfe\xff\xff\xff\xff\xff\xff\xff"},
		{13, num(1), "\x68\x01"},
		{14, str("ä"), "\x72\x02ä"},
		{14, str(strings.Repeat("a", 127)), "\x72\x7f" + strings.Repeat("a", 127)},
		{14, str(strings.Repeat("a", 128)), "\x72\x80\x01" + strings.Repeat("a", 128)},
		{15, str("\xff\x00"), "\x7a\x02\xff\x00"},
		{16, num(5), "\x80\x01\x05"},
		{16, num(-1), "\x80\x01\xff\xff\xff\xff\xff\xff\xff\xff\xff\x01"},
		{17, message(""), "\x8a\x01\x00"},
		{17, one(3, num(1)), "\x8a\x01\x02\x18\x01"},
		{17, one(17, one(17, message(""))), "\x8a\x01\x06\x8a\x01\x03\x8a\x01\x00"},
		{17, one(14, str(strings.Repeat("a", 126))), "\x8a\x01\x80\x01\x72\x7e" + strings.Repeat("a", 126)},
	} {
		wantBytes(t, s, 0, one(x.number, x.v), x.want)
		f, _ := s.Field(0, x.number)
		wantPart(t, s, f, x.v)
	}
	wantBytes(t, compiled(t, head+"message A { int32 x = 1; }"), 0, one(1, num(1)), "\x08\x01") // the chapter's example
}

// labels has fields of all labels, some of which stand in the schema's text behind those of greater numbers.
const labels = head + `
message C { }
message A {
  map<int32, string> m = 31; map<string, A> ma = 32; map<bool, sint32> mn = 33; map<sfixed32, double> mf = 34; map<string, E> me = 35; map<sint64, bytes> mb = 36;
  oneof x { int32 xn = 41; string xs = 42; A xa = 43; }
  repeated int32 r = 21; repeated int32 ru = 22 [packed = false]; repeated string rs = 23; repeated A ra = 24; repeated fixed32 rf = 25; repeated sint64 rz = 26 [packed = true]; repeated double rd = 27 [packed = false]; repeated B rk = 28 [key = id]; repeated E re = 29; repeated bool rb = 30; repeated sfixed64 rl = 61;
  optional int32 o = 11; optional string os = 12; optional A oa = 13; optional bytes ob = 14;
  int32 n = 1; string s = 2; A a = 3; fixed32 big = 536870911;
}
message B { int32 id = 1; bytes up = 2; }
enum E { Z = 0; }`

// P15.1: fields of each label, written out.
func TestLabels(t *testing.T) {
	s := compiled(t, labels)
	for _, x := range []struct {
		v    value.Value
		want string
	}{
		{message(""), ""},
		{one(11, num(0)), "\x58\x00"}, {one(12, str("")), "\x62\x00"}, {one(13, message("")), "\x6a\x00"}, {one(14, str("")), "\x72\x00"},
		{one(41, num(0)), "\xc8\x02\x00"}, {one(42, str("")), "\xd2\x02\x00"}, {one(43, message("")), "\xda\x02\x00"},
		{one(21, numbers(0)), "\xaa\x01\x01\x00"}, {one(21, numbers(3, 270, 86942)), "\xaa\x01\x06\x03\x8e\x02\x9e\xa7\x05"},
		{one(21, numbers(-1)), "\xaa\x01\x0a\xff\xff\xff\xff\xff\xff\xff\xff\xff\x01"},
		{one(22, numbers(0)), "\xb0\x01\x00"}, {one(22, numbers(3, 270, 3)), "\xb0\x01\x03\xb0\x01\x8e\x02\xb0\x01\x03"},
		{one(23, list(str("b"), str(""), str("a"))), "\xba\x01\x01b\xba\x01\x00\xba\x01\x01a"},
		{one(24, list(message(""), one(1, num(1)), message(""))), "\xc2\x01\x00\xc2\x01\x02\x08\x01\xc2\x01\x00"},
		{one(25, numbers(1, 1<<31)), "\xca\x01\x08\x01\x00\x00\x00\x00\x00\x00\x80"},
		{one(26, numbers(-1, 1, 64)), "\xd2\x01\x04\x01\x02\x80\x01"},
		{one(27, numbers(1, 0)), "\xd9\x01\x01\x00\x00\x00\x00\x00\x00\x00\xd9\x01\x00\x00\x00\x00\x00\x00\x00\x00"},
		{one(28, list(one(1, num(2)), one(2, str("a")), one(1, num(2)))), "\xe2\x01\x02\x08\x02\xe2\x01\x03\x12\x01a\xe2\x01\x02\x08\x02"},
		{one(29, numbers(7, -1)), "\xea\x01\x0b\x07\xff\xff\xff\xff\xff\xff\xff\xff\xff\x01"}, {one(30, numbers(1, 0, 1)), "\xf2\x01\x03\x01\x00\x01"},
		{one(61, numbers(-2, 1)), "\xea\x03\x10\xfe\xff\xff\xff\xff\xff\xff\xff\x01\x00\x00\x00\x00\x00\x00\x00"},
		{one(31, table(pair(num(0), str("")))), "\xfa\x01\x04\x08\x00\x12\x00"}, // both always
		{one(31, table(pair(num(1), str("b")), pair(num(300), str("a")), pair(num(-1), str("")))), "\xfa\x01\x05\x08\x01\x12\x01b\xfa\x01\x06\x08\xac\x02\x12\x01a\xfa\x01\x0d\x08\xff\xff\xff\xff\xff\xff\xff\xff\xff\x01\x12\x00"},
		{one(32, table(pair(str(""), message("")), pair(str("a"), one(1, num(1))))), "\x82\x02\x04\x0a\x00\x12\x00\x82\x02\x07\x0a\x01a\x12\x02\x08\x01"},
		{one(33, table(pair(num(0), num(-1)), pair(num(1), num(0)))), "\x8a\x02\x04\x08\x00\x10\x01\x8a\x02\x04\x08\x01\x10\x00"},
		{one(34, table(pair(num(-2), num(1)))), "\x92\x02\x0e\x0d\xfe\xff\xff\xff\x11\x01\x00\x00\x00\x00\x00\x00\x00"},
		{one(35, table(pair(str("k"), num(0)))), "\x9a\x02\x05\x0a\x01k\x10\x00"},
		{one(36, table(pair(num(-1), str("\xff")))), "\xa2\x02\x05\x08\x01\x12\x01\xff"},
		{one(1<<29-1, num(1)), "\xfd\xff\xff\xff\x0f\x01\x00\x00\x00"},
	} {
		wantBytes(t, s, 1, x.v, x.want)
		wantBytes(t, s, 1, one(24, list(x.v, message(""))), "\xc2\x01"+string(rune(len(x.want)))+x.want+"\xc2\x01\x00")
	}
}

// P15.1: fields stand by their numbers, not as in the schema's text, and the Rest behind them as it is, in each message.
func TestOrder(t *testing.T) {
	s := compiled(t, labels)
	rest := "\xf8\x03\x01\x08\x81\x00\x0a\x00" // of 63; of 1, not the shortest; of 1, of another kind
	v := message("\xf8\x03\x01\x0a\x00", value.Field{Number: 1, Value: num(1)}, value.Field{Number: 11, Value: num(2)}, value.Field{Number: 21, Value: numbers(3)}, value.Field{Number: 31, Value: table(pair(num(4), str("")))}, value.Field{Number: 41, Value: num(5)}, value.Field{Number: 61, Value: numbers(6)})
	want := "\x08\x01\x58\x02\xaa\x01\x01\x03\xfa\x01\x04\x08\x04\x12\x00\xc8\x02\x05\xea\x03\x08\x06\x00\x00\x00\x00\x00\x00\x00\xf8\x03\x01\x0a\x00"
	wantBytes(t, s, 1, v, want)
	wantBytes(t, s, 1, message("\x0a\x00", value.Field{Number: 3, Value: v}), "\x1a"+string(rune(len(want)))+want+"\x0a\x00")
	wantBytes(t, s, 0, message(rest), rest)
	wantBytes(t, s, 1, message("\x0d\x00\x00\x00\x00", value.Field{Number: 2, Value: str("a")}), "\x12\x01a\x0d\x00\x00\x00\x00")
}

// P15.1: what layer 14 doesn't hold has its error, and nothing else.
func TestErrors(t *testing.T) {
	s := compiled(t, labels)
	for _, x := range []struct {
		v    value.Value
		want error
	}{
		{value.Value{}, api.ErrForm}, {num(1), api.ErrForm}, {list(message("")), api.ErrForm}, {both(2, str("a"), 1, num(1)), api.ErrForm}, {one(21, list()), api.ErrForm}, {one(1, value.Value{Kind: value.Number, Number: 1, Text: "a"}), api.ErrForm},
		{one(4, num(1)), api.ErrTag}, {one(1, num(0)), api.ErrKind}, {one(1, num(1<<31)), api.ErrKind}, {one(2, str("")), api.ErrKind}, {one(2, num(1)), api.ErrKind},
		{one(21, num(1)), api.ErrKind}, {one(21, numbers(1, 1<<31)), api.ErrKind}, {one(1, numbers(1)), api.ErrKind}, {one(31, numbers(1)), api.ErrKind}, {one(31, table(pair(str("a"), str("a")))), api.ErrKind}, {one(31, table(pair(num(1), num(1)))), api.ErrKind},
		{one(2, str("\xff")), api.ErrRune}, {one(23, list(str("a"), str("\xff"))), api.ErrRune}, {one(31, table(pair(num(1), str("\xff")))), api.ErrRune},
		{both(41, num(1), 42, str("a")), api.ErrDup},
		{message("\x08\x01"), api.ErrTag}, {message("\x0a"), api.ErrShort}, {message("\x0b"), api.ErrGroup}, {message("\x0e"), api.ErrKind}, {message("\xff\xff\xff\xff\xff\xff\xff\xff\xff\xff\x01"), api.ErrVarint},
		{message("\x08\x01", value.Field{Number: 1, Value: num(0)}), api.ErrKind}, {message("\x0a", value.Field{Number: 4, Value: num(0)}), api.ErrTag},
	} {
		wantError(t, s, 1, x.v, x.want)
		if x.v.Kind == value.Message {
			wantError(t, s, 1, both(1, num(1), 3, x.v), x.want)
			wantError(t, s, 1, both(1, num(1), 24, list(message(""), x.v)), x.want)
			wantError(t, s, 1, one(32, table(pair(str("a"), x.v))), x.want)
		}
		for _, at := range []int{-1, 3, math.MaxInt, math.MinInt} {
			wantError(t, s, at, x.v, api.ErrNone)
		}
	}
	wantError(t, s, 3, message(""), api.ErrNone)
	wantError(t, schema.Schema{}, 0, message(""), api.ErrNone)
}

// P15.1: parts, of fields of all kinds and labels: one record, as of the label Optional; or layer 14's error.
func TestPart(t *testing.T) {
	parts := []value.Value{{}, str(""), str("a"), str("\xff"), message(""), message("\x90\x03\x01"), message("\x80"), one(99, num(1)), list(num(1)), list(message("")), table(pair(num(1), num(1))), {Kind: 6}, {Kind: -1}}
	for _, n := range edges() {
		parts = append(parts, value.Num(n), one(1, value.Num(n)), one(17, one(4, value.Num(n))))
	}
	for _, name := range typeNames {
		text := head + "enum E { Z = 0; } message B { " + name + " a = 1; optional " + name + " b = 15; repeated " + name + " c = 16; map<sint32, " + name + "> d = 2047; oneof o { " + name + " e = 2048; } "
		if slices.Contains(numberNames, name) {
			text += "repeated " + name + " f = 17 [packed = false]; repeated " + name + " g = 536870911 [packed = true]; "
		}
		if slices.Contains(keyNames, name) {
			text += "map<" + name + ", string> h = 18; "
		}
		s := compiled(t, text+"} message C { } "+strings.TrimPrefix(all, head)[:strings.Index(all, "enum")-len(head)])
		for _, f := range s.Messages[0].Fields {
			for _, v := range parts {
				wantPart(t, s, f, v)
			}
		}
	}
}

// P15.1: parts, written out.
func TestPartWrittenOut(t *testing.T) {
	s := compiled(t, labels)
	for _, x := range []struct {
		number int
		v      value.Value
		want   string
		err    error
	}{
		{1, num(0), "\x08\x00", nil}, {2, str(""), "\x12\x00", nil}, {3, message(""), "\x1a\x00", nil}, // as if the field were optional
		{11, num(7), "\x58\x07", nil}, {42, str(""), "\xd2\x02\x00", nil},
		{21, num(3), "\xa8\x01\x03", nil}, {22, num(3), "\xb0\x01\x03", nil}, {26, num(-1), "\xd0\x01\x01", nil}, {61, num(1), "\xe9\x03\x01\x00\x00\x00\x00\x00\x00\x00", nil}, // packed or not, alone
		{24, one(1, num(1)), "\xc2\x01\x02\x08\x01", nil}, {24, message("\x0a\x00"), "\xc2\x01\x02\x0a\x00", nil},
		{31, str("a"), "\xfa\x01\x01a", nil}, {33, num(-1), "\x88\x02\x01", nil}, {32, message(""), "\x82\x02\x00", nil}, // of a map a value
		{1, str("a"), "", api.ErrKind}, {1, num(1 << 31), "", api.ErrKind}, {21, numbers(1), "", api.ErrKind}, {31, table(pair(num(1), str("a"))), "", api.ErrKind}, {33, str("a"), "", api.ErrKind}, {1, value.Value{}, "", api.ErrKind},
		{2, str("\xff"), "", api.ErrRune}, {31, str("\xff"), "", api.ErrRune},
		{24, one(1, num(0)), "", api.ErrKind}, {24, one(4, num(1)), "", api.ErrTag}, {24, message("\x08\x01"), "", api.ErrTag}, {24, one(21, list()), "", api.ErrForm}, {24, message("\x80"), "", api.ErrShort},
	} {
		f, _ := s.Field(1, x.number)
		wantPart(t, s, f, x.v)
		if got, err := Part(s, f, x.v); string(got) != x.want || !isError(err, x.err) {
			t.Errorf("Part(%d, %v): % x, %v, want % x, %v", x.number, x.v, got, err, x.want, x.err)
		}
	}
}

// P15.1: rows of numbers of all kinds; of others nothing.
func TestRow(t *testing.T) {
	for kind := -3; kind <= 40; kind++ {
		right := numbersOf(kind)
		for i := range right {
			for _, row := range [][]uint64{right[:i], right[i:], {right[i], right[i]}, {right[i]}} {
				if got, want := Row(kind, row), modelRow(kind, row); !bytes.Equal(got, want) {
					t.Errorf("Row(%d, %v): % x, want % x", kind, row, got, want)
				}
			}
		}
		if len(Row(kind, nil)) > 0 || len(Row(kind, []uint64{})) > 0 {
			t.Errorf("a row of %d without numbers has bytes", kind)
		}
	}
	for _, kind := range []int{math.MinInt, -1, 0, 14, 15, 17, 18, 1<<32 + 3, math.MaxInt} {
		if got := Row(kind, []uint64{1, 2, 0}); len(got) > 0 {
			t.Errorf("Row(%d): % x, want nothing", kind, got)
		}
	}
}

// P15.1: rows, written out.
func TestRowWrittenOut(t *testing.T) {
	minus := uint64(math.MaxUint64)
	for _, x := range []struct {
		kind int
		row  []uint64
		want string
	}{
		{kinds.Int32, []uint64{1, 300}, "\x01\xac\x02"},
		{kinds.Int32, []uint64{0, minus, 0}, "\x00\xff\xff\xff\xff\xff\xff\xff\xff\xff\x01\x00"},
		{kinds.Sint32, []uint64{0, minus, 1, minus - 1}, "\x00\x01\x02\x03"},
		{kinds.Sint64, []uint64{1 << 63}, "\xff\xff\xff\xff\xff\xff\xff\xff\xff\x01"},
		{kinds.Double, []uint64{1, 1 << 63}, "\x01\x00\x00\x00\x00\x00\x00\x00\x00\x00\x00\x00\x00\x00\x00\x80"},
		{kinds.Float, []uint64{1 << 31, 1}, "\x00\x00\x00\x80\x01\x00\x00\x00"},
		{kinds.Sfixed32, []uint64{minus, 2}, "\xff\xff\xff\xff\x02\x00\x00\x00"},
		{kinds.Sfixed64, []uint64{minus - 1}, "\xfe\xff\xff\xff\xff\xff\xff\xff"},
		{kinds.Bool, []uint64{1, 0, 1}, "\x01\x00\x01"},
		{kinds.Enum, []uint64{5}, "\x05"},
		{kinds.String, []uint64{5}, ""}, {kinds.Bytes, []uint64{5}, ""}, {kinds.Message, []uint64{5}, ""},
	} {
		if got := Row(x.kind, x.row); string(got) != x.want {
			t.Errorf("Row(%d, %v): % x, want % x", x.kind, x.row, got, x.want)
		}
	}
	for kind := range 18 { // numbers that aren't right are no reason to panic
		Row(kind, edges())
	}
}

// P15.1: schemas and values by chance, against the model, or against layer 14's errors.
func TestMixed(t *testing.T) {
	errs := []error{nil, api.ErrForm, api.ErrTag, api.ErrKind, api.ErrRune, api.ErrDup, api.ErrShort, api.ErrGroup, api.ErrVarint}
	seen := make([]int, len(errs))
	for seed := range uint64(10000) {
		m := newMaker(t, seed)
		at := m.IntN(3)
		v := m.message(at, 4)
		if !wantModel(t, m.s, at, v) {
			t.Fatalf("%v isn't held", v)
		}
		v = m.spoiled(v)
		wantModel(t, m.s, at, v)
		for _, x := range m.s.Messages[at].Fields {
			wantPart(t, m.s, x, m.part(x.Kind, x.Type, 3))
			wantPart(t, m.s, x, v)
		}
		err := hold.Check(m.s, at, v)
		seen[slices.IndexFunc(errs, func(want error) bool { return isError(err, want) })]++
		if t.Failed() {
			t.Fatal(seed)
		}
	}
	if slices.Contains(seen, 0) {
		t.Errorf("not each error was met: %v of %v", seen, errs)
	}
}

// wantUnlike holds the bytes of a message's values against one another: like ones just of values that are the same.
func wantUnlike(t *testing.T, s schema.Schema, message int, values []value.Value) {
	t.Helper()
	slices.SortFunc(values, value.Compare)
	values = slices.CompactFunc(values, value.Same)
	seen := map[string]value.Value{}
	for _, v := range values {
		b, err := Of(s, message, v)
		if err != nil {
			t.Fatalf("Of(%d, %v): %v", message, v, err)
		}
		if other, is := seen[string(b)]; is {
			t.Fatalf("%v and %v are both % x", v, other, b)
		}
		seen[string(b)] = v
	}
}

// P15.2: all values that have some parts, or haven't, of a message with fields of all labels, each of which might be taken for another one.
func TestUnlike(t *testing.T) {
	s := compiled(t, head+`message A { int32 a = 1; optional string b = 2; repeated int32 c = 3; repeated bytes d = 4; map<bool, bytes> e = 5; A f = 6; oneof o { int32 g = 7; bytes h = 8; A i = 9; } repeated int32 j = 10 [packed = false]; }`)
	inner := []value.Value{message(""), one(1, num(8)), one(2, str("")), one(2, str("\x08")), one(3, numbers(1)), message("\x58\x01")}
	choices := []struct {
		number int
		of     []value.Value
	}{
		{1, []value.Value{num(1), num(-1)}},
		{2, []value.Value{str(""), str("\x08\x01")}},
		{3, []value.Value{numbers(0), numbers(0, 0), numbers(8, 1)}},
		{4, []value.Value{list(str("")), list(str(""), str("")), list(str("\x22\x00"))}},
		{5, []value.Value{table(pair(num(0), str(""))), table(pair(num(0), str("")), pair(num(1), str(""))), table(pair(num(1), str("")))}},
		{6, inner},
		{10, []value.Value{numbers(0), numbers(0, 0), numbers(1)}},
	}
	oneof := append([]value.Value{message(""), one(7, num(0)), one(7, num(1)), one(8, str("")), one(8, str("\x08"))}, inner...)
	for i := range inner {
		oneof[5+i] = one(9, inner[i])
	}
	values := oneof
	for _, c := range choices {
		for _, v := range slices.Clone(values) {
			for _, x := range c.of {
				values = append(values, value.With(v, c.number, x))
			}
		}
	}
	for _, v := range slices.Clone(values[:5000]) {
		v.Rest = "\x58\x01"
		values = append(values, v)
	}
	wantUnlike(t, s, 0, values)
}

// P15.2: values by chance, and such as are like them but in one place.
func TestUnlikeByChance(t *testing.T) {
	for seed := range uint64(1000) {
		m := newMaker(t, seed)
		at := m.IntN(3)
		var values []value.Value
		for range 4 {
			values = append(values, m.near(at, m.message(at, 3))...)
		}
		wantUnlike(t, m.s, at, values)
		if t.Failed() {
			t.Fatal(seed)
		}
	}
}

// P15.1: values that are the same have the same bytes, whether a list is empty or nil.
func TestSame(t *testing.T) {
	s := compiled(t, labels)
	v := one(21, numbers(1))
	w := v
	w.List, w.Pairs = []value.Value{}, []value.Pair{}
	w.Fields = append(make([]value.Field, 0, 9), value.Field{Number: 21, Value: value.Value{Kind: value.List, Fields: []value.Field{}, List: []value.Value{{Kind: value.Number, Number: 1, List: []value.Value{}}}}})
	wantBytes(t, s, 1, v, "\xaa\x01\x01\x01")
	wantBytes(t, s, 1, w, "\xaa\x01\x01\x01")
	wantBytes(t, s, 1, value.Value{Kind: value.Message, Fields: []value.Field{}}, "")
}

// P15.1: nothing that is given is changed, nor the room behind it; and what is answered is the caller's alone.
func TestApart(t *testing.T) {
	s := compiled(t, labels)
	made := func() value.Value {
		inner := make([]value.Value, 3, 9)
		copy(inner, []value.Value{num(1), num(2), num(3)})
		fields := make([]value.Field, 4, 9)
		copy(fields, []value.Field{{Number: 2, Value: str("abc")}, {Number: 3, Value: message("\x0a\x00")}, {Number: 21, Value: list(inner...)}, {Number: 31, Value: table(pair(num(1), str("x")), pair(num(2), str("y")))}})
		return message("\x0a\x01z", fields...)
	}
	v := made()
	f, _ := s.Field(1, 3)
	first, _ := Of(s, 1, v)
	part, _ := Part(s, f, v)
	want, wantedPart := bytes.Clone(first), bytes.Clone(part)
	for _, b := range [][]byte{first[:cap(first)], part[:cap(part)]} {
		for i := range b {
			b[i] = 77
		}
	}
	again, _ := Of(s, 1, v)
	partAgain, _ := Part(s, f, v)
	if !bytes.Equal(again, want) || !bytes.Equal(partAgain, wantedPart) || !reflect.DeepEqual(v, made()) || !schema.Same(s, compiled(t, labels)) {
		t.Errorf("something was changed: %v, % x, want % x", v, again, want)
	}
	if behind := v.Fields[2].Value.List[:cap(v.Fields[2].Value.List)]; !reflect.DeepEqual(behind[3:], make([]value.Value, len(behind)-3)) {
		t.Errorf("the room behind a list was changed: %v", behind)
	}
	room := []uint64{1, 2, 3, 4, 5}
	row := Row(kinds.Int32, room[:3])
	row[0] = 9
	if !slices.Equal(room, []uint64{1, 2, 3, 4, 5}) || string(Row(kinds.Int32, room[:3])) != "\x01\x02\x03" {
		t.Errorf("a row was changed: %v", room)
	}
}

// P15.1: messages deep within one another, and long lists, texts and maps, in a time that grows as they do.
func TestDeepAndLong(t *testing.T) {
	s := compiled(t, labels)
	begun := time.Now()
	const deep = 1 << 15
	v, size := message(""), 0
	for range deep {
		v = one(3, v)
		size += 1 + len(binary.AppendUvarint(nil, uint64(size)))
	}
	b, err := Of(s, 1, v)
	if err != nil || len(b) != size || b[0] != 0x1a || b[len(b)-1] != 0 {
		t.Errorf("a deep message: %d bytes, %v", len(b), err)
	}
	long := list()
	for i := range 1 << 18 {
		long.List = append(long.List, num(int64(i)))
	}
	n, err := Length(s, 1, both(21, long, 22, long))
	if varints := 128 + 2*(1<<14-128) + 3*(1<<18-1<<14); err != nil || n != 2+3+varints+varints+2<<18 {
		t.Errorf("long lists: %d bytes, %v", n, err)
	}
	rows := make([]uint64, 1<<20)
	if n := len(Row(kinds.Double, rows)) + len(Row(kinds.Float, rows)) + len(Row(kinds.Sint64, rows)); n != 13<<20 {
		t.Errorf("long rows: %d bytes", n)
	}
	text := strings.Repeat("a", 1<<24)
	if b, err := Of(s, 1, one(2, str(text))); err != nil || string(b) != "\x12\x80\x80\x80\x08"+text {
		t.Errorf("a long text: %d bytes, %v", len(b), err)
	}
	if took := time.Since(begun); took > 20*time.Second {
		t.Errorf("it took %v", took)
	}
}
