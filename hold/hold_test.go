package hold

import (
	"errors"
	"math"
	"reflect"
	"slices"
	"strings"
	"testing"
	"time"

	"redline/api"
	"redline/schema"
	"redline/tag"
	"redline/value"
)

const head = "syntax = 'proto3'; "

// wide has fields of all labels: numbers below 10 are plain, from 10 on optional, from 20 on repeated, from 30 on maps, from 40 on those of two oneofs.
const wide = head + `
message A {
  int32 n = 1; string s = 2; bytes b = 3; A a = 4; E e = 5; double d = 6;
  optional int32 on = 11; optional string os = 12; optional bytes ob = 13; optional A oa = 14; optional bool oo = 15;
  repeated int32 rn = 21; repeated string rs = 22; repeated bytes rb = 23; repeated A ra = 24; repeated fixed32 ru = 25 [packed = false]; repeated E re = 26; repeated B rk = 27 [key = id];
  map<int32, int32> mn = 31; map<string, string> ms = 32; map<bool, A> ma = 33; map<string, bytes> mb = 34; map<sint64, E> me = 35;
  oneof x { int32 xn = 41; string xs = 42; A xa = 43; }
  oneof y { int32 yn = 51; bytes yb = 52; }
  B other = 60;
}
message B { int32 id = 1; A up = 2; }
message C { }
enum E { Z = 0; O = 1; }`

func compiled(t *testing.T, text string) schema.Schema {
	t.Helper()
	s, err := schema.Of(text)
	if err != nil {
		t.Fatalf("%s: %v, %v", text, err, errors.Unwrap(err))
	}
	return s
}

func message(rest string, fields ...value.Field) value.Value {
	return value.Value{Kind: value.Message, Fields: fields, Rest: rest}
}

// one is a message of one field.
func one(number int, v value.Value) value.Value {
	return message("", value.Field{Number: number, Value: v})
}

// both is a message of two fields.
func both(a int, x value.Value, b int, y value.Value) value.Value {
	return message("", value.Field{Number: a, Value: x}, value.Field{Number: b, Value: y})
}

func list(values ...value.Value) value.Value { return value.Value{Kind: value.List, List: values} }

func pair(key, v value.Value) value.Pair { return value.Pair{Key: key, Value: v} }

func table(pairs ...value.Pair) value.Value { return value.Value{Kind: value.Map, Pairs: pairs} }

func num(n int64) value.Value { return value.Num(uint64(n)) }

func str(s string) value.Value { return value.Str(s) }

// P14.1: values that are held, of each label and at the edges.
func TestHeld(t *testing.T) {
	s := compiled(t, wide)
	for _, v := range []value.Value{
		message(""),
		{Kind: value.Message, Fields: []value.Field{}, List: []value.Value{}, Pairs: []value.Pair{}},
		one(1, num(1)), one(1, num(-1)), one(1, num(math.MaxInt32)), one(1, num(math.MinInt32)),
		one(2, str("a")), one(2, str("\x00")), one(2, str("ä\U0010ffff")),
		one(3, str("\xff")), one(3, str("a")),
		one(4, message("")), one(4, one(4, one(1, num(1)))), // an empty message isn't a number 0, nor an empty text
		one(5, num(1)), one(5, num(7)), one(5, num(-7)), // also such as the enum has no name for
		one(6, value.Num(math.MaxUint64)), one(6, value.Num(1<<63)), // -0 is bits that aren't 0
		one(11, num(0)), one(12, str("")), one(13, str("")), one(14, message("")), one(15, num(0)), one(15, num(1)),
		one(21, list(num(0))), one(21, list(num(2), num(1), num(1), num(-1))),
		one(22, list(str(""))), one(22, list(str("b"), str("a"))),
		one(23, list(str(""), str("\xff"))),
		one(24, list(message(""))), one(24, list(one(1, num(1)), message(""))),
		one(25, list(num(0), num(math.MaxUint32))), one(26, list(num(0), num(5))),
		one(27, list(one(1, num(1)), one(1, num(1)))), // elements that have one key
		one(31, table(pair(num(0), num(0)))), one(31, table(pair(num(1), num(0)), pair(num(-1), num(3)))),
		one(32, table(pair(str(""), str("")))), one(32, table(pair(str("a"), str("ä")), pair(str("b"), str("")))),
		one(33, table(pair(num(0), message("")), pair(num(1), one(1, num(1))))),
		one(34, table(pair(str("a"), str("\xff")))), one(35, table(pair(num(math.MinInt64), num(0)))),
		one(41, num(0)), one(42, str("")), one(43, message("")), one(41, num(5)), // those of a oneof aren't plain
		both(41, num(0), 51, num(0)), both(43, message(""), 52, str("")), // of two oneofs
		both(1, num(1), 41, num(1)), both(1, num(1), 11, num(1)), // and none
		one(60, both(1, num(1), 2, one(1, num(1)))),
	} {
		wantCheck(t, s, 0, v, nil)
		wantCheck(t, s, 0, one(4, v), nil)
		wantCheck(t, s, 0, one(14, v), nil)
		wantCheck(t, s, 0, one(24, list(message(""), v)), nil)
		wantCheck(t, s, 0, one(33, table(pair(num(1), v))), nil)
		wantCheck(t, s, 0, one(43, v), nil)
		wantCheck(t, s, 1, one(2, v), nil)
	}
}

// wantWithin holds Check's answer of a value against an error, of itself and of all messages in which it may stand.
func wantWithin(t *testing.T, s schema.Schema, v value.Value, want error) {
	t.Helper()
	wantCheck(t, s, 0, v, want)
	for _, number := range []int{4, 14, 43} {
		wantCheck(t, s, 0, one(number, v), want)
	}
	wantCheck(t, s, 0, one(24, list(message(""), v)), want)
	wantCheck(t, s, 0, one(33, table(pair(num(0), message("")), pair(num(1), v))), want)
	wantCheck(t, s, 0, one(60, one(2, v)), want)
	wantCheck(t, s, 1, one(2, v), want)
}

// P14.1: a message that isn't there, whatever the value is.
func TestNoMessage(t *testing.T) {
	s := compiled(t, wide)
	for _, v := range []value.Value{message(""), {}, num(1), {Kind: 9}, one(99, num(1)), one(0, num(1))} {
		for _, at := range []int{-1, 3, 4, math.MaxInt, math.MinInt, math.MaxUint32 + 1} {
			wantCheck(t, s, at, v, api.ErrNone)
		}
		wantCheck(t, schema.Schema{}, 0, v, api.ErrNone)
	}
	wantCheck(t, s, 2, message(""), nil)
	for _, at := range []int{-1, 3, math.MaxInt, math.MinInt} {
		for wire := -1; wire < 8; wire++ {
			if Known(s, at, tag.Tag{Number: 1, Wire: wire}) {
				t.Errorf("a record of the message %d, of the kind %d, is known", at, wire)
			}
		}
	}
}

// P14.1: no Messages, and values that aren't right: ahead of all that is asked of fields.
func TestForm(t *testing.T) {
	s := compiled(t, wide)
	for _, v := range []value.Value{
		{}, num(0), num(1), str("a"), list(message("")), table(pair(num(1), message(""))), {Kind: 6}, {Kind: -1},
		{Kind: value.Message, Number: 1}, {Kind: value.Message, Text: "a"}, {Kind: value.Message, List: []value.Value{num(1)}}, {Kind: value.Message, Pairs: []value.Pair{{}}},
		both(2, str("a"), 1, num(1)), both(1, num(1), 1, num(1)),
		one(0, num(1)), one(-1, num(1)), one(1<<29, num(1)),
		one(1, value.Value{}), one(21, list()), one(31, table()), one(21, list(list(num(1)))), one(24, list(value.Value{})),
		one(31, table(pair(num(2), num(1)), pair(num(1), num(1)))), one(31, table(pair(num(1), num(1)), pair(num(1), num(1)))),
		one(31, table(pair(num(-1), num(1)), pair(num(1), num(1)))), // keys rise as numbers without a sign
		one(31, table(pair(num(1), value.Value{}))), one(31, table(pair(num(1), num(1)), pair(str("a"), num(1)))),
		one(1, value.Value{Kind: value.Number, Number: 1, Text: "a"}), one(2, value.Value{Kind: value.Text, Text: "a", Number: 1}),
		one(4, one(0, num(1))), one(24, list(message(""), one(1, value.Value{}))), one(33, table(pair(num(1), one(1, list())))),
		both(1, num(0), 2, value.Value{}), both(1, str("a"), 4, one(-1, num(1))), both(90, num(1), 91, list()), // ahead of other faults
	} {
		wantCheck(t, s, 0, v, api.ErrForm)
		if v.Kind == value.Message {
			wantCheck(t, s, 0, one(4, v), api.ErrForm)
			wantCheck(t, s, 0, both(1, str("a"), 4, v), api.ErrForm)
			wantPart(t, s, schema.Field{Label: 1, Kind: modelMessage}, v, api.ErrForm)
		}
	}
}

// P14.1: fields that are none of the message's.
func TestNoField(t *testing.T) {
	s := compiled(t, wide)
	for _, number := range []int{7, 10, 16, 44, 61, 1 << 28, api.MaxNumber} {
		for _, v := range []value.Value{num(1), num(0), str("a"), str(""), message(""), list(num(1)), table(pair(num(1), num(1)))} {
			wantWithin(t, s, one(number, v), api.ErrTag)
			wantCheck(t, s, 2, one(number, v), api.ErrTag)
		}
	}
	wantCheck(t, s, 0, one(60, one(3, num(1))), api.ErrTag) // of another message alone
	wantCheck(t, s, 1, one(4, message("")), api.ErrTag)
}

// P14.1: values of another kind than a field's label, and its kind, ask for.
func TestKind(t *testing.T) {
	s := compiled(t, wide)
	number, text, empty := num(1), str("a"), message("")
	singles := []value.Value{number, text, empty}
	lists := []value.Value{list(number), list(text), list(empty)}
	tables := []value.Value{table(pair(number, number)), table(pair(text, text)), table(pair(number, empty)), table(pair(text, number))}
	rightOnes := map[int]value.Value{
		1: number, 2: text, 3: text, 4: empty, 5: number, 6: number, 11: number, 12: text, 13: text, 14: empty, 15: number,
		21: lists[0], 22: lists[1], 23: lists[1], 24: lists[2], 25: lists[0], 26: lists[0], 27: lists[2],
		31: tables[0], 32: tables[1], 33: tables[2], 34: tables[1], 35: tables[0],
		41: number, 42: text, 43: empty, 51: number, 52: text, 60: empty,
	}
	for _, f := range s.Messages[0].Fields {
		for _, v := range slices.Concat(singles, lists, tables) {
			var want error = api.ErrKind
			if reflect.DeepEqual(v, rightOnes[f.Number]) {
				want = nil
			}
			wantWithin(t, s, one(f.Number, v), want)
		}
	}
}

// P14.1: a list's values, and a map's keys and values, are each asked for.
func TestEachPart(t *testing.T) {
	s := compiled(t, wide)
	for _, v := range []value.Value{
		one(21, list(num(1), str("a"))), one(21, list(str("a"), num(1))), one(21, list(num(1), num(2), message(""))), one(21, list(num(1<<31))),
		one(22, list(str("a"), num(1))), one(24, list(message(""), num(1))), one(24, list(message(""), one(1, num(0)))),
		one(31, table(pair(str("a"), num(1)))), one(31, table(pair(num(1), num(1)), pair(num(2), str("a")))), one(31, table(pair(num(1), num(1)), pair(num(1<<31), num(1)))), one(31, table(pair(num(1), num(1<<31)))),
		one(32, table(pair(num(1), str("a")))), one(32, table(pair(str("a"), str("a")), pair(str("b"), num(1)))),
		one(33, table(pair(num(2), message("")))), one(33, table(pair(num(1), one(1, num(0))))),
	} {
		wantWithin(t, s, v, api.ErrKind)
	}
}

// P14.1: the numbers of all kinds, at their edges, in fields of all labels, and as keys.
func TestNumbers(t *testing.T) {
	edges := []uint64{0, 1, 2, 3, 1<<31 - 1, 1 << 31, 1<<32 - 1, 1 << 32, 1<<63 - 1, 1 << 63, -(1 << 31) & math.MaxUint64, -(1<<31 + 1) & math.MaxUint64, math.MaxUint64}
	for kind, name := range slices.Concat(kindNames, []string{"A"}) {
		text := head + "message A { " + name + " a = 1; optional " + name + " b = 2; repeated " + name + " c = 3; map<int32, " + name + "> d = 4; oneof o { " + name + " e = 5; } "
		isKey := slices.Contains(keyNames, name)
		if isKey {
			text += "map<" + name + ", bool> f = 6; "
		}
		s := compiled(t, text+"} enum E { Z = 0; }")
		f := s.Messages[0].Fields[0]
		for _, n := range edges {
			v := value.Num(n)
			var want error
			if !modelNumber(f.Kind, n) {
				want = api.ErrKind
			}
			wantPart(t, s, f, v, want)
			wantCheck(t, s, 0, one(2, v), want)
			wantCheck(t, s, 0, one(3, list(v)), want)
			wantCheck(t, s, 0, one(4, table(pair(num(1), v))), want)
			wantCheck(t, s, 0, one(5, v), want)
			if isKey {
				wantCheck(t, s, 0, one(6, table(pair(v, num(1)))), want)
			}
			if n == 0 {
				want = api.ErrKind
			}
			wantCheck(t, s, 0, one(1, v), want)
		}
		if t.Failed() {
			t.Fatal(kind, name)
		}
	}
}

// P14.1: which numbers are a kind's, written out.
func TestNumbersWrittenOut(t *testing.T) {
	s := compiled(t, head+"message A { int32 a = 1; int64 b = 2; uint32 c = 3; sint32 d = 4; sfixed32 e = 5; fixed32 f = 6; float g = 7; bool h = 8; E i = 9; double j = 10; fixed64 k = 11; } enum E { Z = 0; }")
	for _, x := range []struct {
		field int
		n     int64
		is    bool
	}{
		{1, 2147483647, true}, {1, 2147483648, false}, {1, -2147483648, true}, {1, -2147483649, false}, {1, 4294967295, false},
		{2, math.MinInt64, true}, {2, math.MaxInt64, true},
		{3, 4294967295, true}, {3, 4294967296, false}, {3, -1, false},
		{4, -2147483648, true}, {4, 2147483648, false}, {5, -1, true}, {5, 4294967295, false},
		{6, 4294967295, true}, {6, -1, false}, {7, 4294967295, true}, {7, 4294967296, false},
		{8, 1, true}, {8, 2, false}, {8, -1, false},
		{9, 2147483647, true}, {9, -2147483648, true}, {9, 2147483648, false},
		{10, -1, true}, {11, -1, true},
	} {
		var want error
		if !x.is {
			want = api.ErrKind
		}
		wantCheck(t, s, 0, one(x.field, num(x.n)), want)
	}
}

// P14.1: a number 0 and an empty text aren't held in plain fields, and in no others.
func TestNought(t *testing.T) {
	s := compiled(t, wide)
	for number, v := range map[int]value.Value{1: num(0), 2: str(""), 3: str(""), 5: num(0), 6: num(0)} {
		wantWithin(t, s, one(number, v), api.ErrKind)
	}
	for number, v := range map[int]value.Value{11: num(0), 12: str(""), 13: str(""), 15: num(0), 21: list(num(0)), 22: list(str("")), 41: num(0), 42: str(""), 51: num(0), 52: str(""), 4: message(""), 60: message("")} {
		wantWithin(t, s, one(number, v), nil)
	}
	wantCheck(t, compiled(t, head+"message A { int32 x = 1; }"), 0, one(1, num(0)), api.ErrKind) // the chapter's example
}

// P14.1: texts that aren't right, of each label; Bytes takes all.
func TestTexts(t *testing.T) {
	s := compiled(t, wide)
	for _, x := range []string{"\xff", "a\xc3", "\xed\xa0\x80", "\xc0\x80", "ä\x80", "\xf4\x90\x80\x80"} {
		wantWithin(t, s, one(2, str(x)), api.ErrRune)
		wantWithin(t, s, one(12, str(x)), api.ErrRune)
		wantWithin(t, s, one(22, list(str(x))), api.ErrRune)
		wantWithin(t, s, one(22, list(str("a"), str(x))), api.ErrRune)
		wantWithin(t, s, one(32, table(pair(str(x), str("a")))), api.ErrRune)
		wantWithin(t, s, one(32, table(pair(str("a"), str(x)))), api.ErrRune)
		wantWithin(t, s, one(34, table(pair(str(x), str("a")))), api.ErrRune)
		wantWithin(t, s, one(42, str(x)), api.ErrRune)
		wantWithin(t, s, one(3, str(x)), nil)
		wantWithin(t, s, one(13, str(x)), nil)
		wantWithin(t, s, one(23, list(str(x))), nil)
		wantWithin(t, s, one(34, table(pair(str("a"), str(x)))), nil)
		wantWithin(t, s, one(52, str(x)), nil)
		wantWithin(t, s, one(4, str(x)), api.ErrKind)
		wantWithin(t, s, one(1, str(x)), api.ErrKind)
	}
}

// P14.1: two fields that stand in one oneof.
func TestOneofs(t *testing.T) {
	s := compiled(t, wide)
	for _, v := range []value.Value{
		both(41, num(1), 42, str("a")), both(41, num(0), 43, message("")), both(42, str(""), 43, one(1, num(1))), both(51, num(0), 52, str("")),
		message("", value.Field{Number: 41, Value: num(1)}, value.Field{Number: 42, Value: str("a")}, value.Field{Number: 43, Value: message("")}),
		message("", value.Field{Number: 41, Value: num(1)}, value.Field{Number: 51, Value: num(1)}, value.Field{Number: 52, Value: str("")}),
		message("", value.Field{Number: 1, Value: num(1)}, value.Field{Number: 42, Value: str("")}, value.Field{Number: 43, Value: message("")}, value.Field{Number: 52, Value: str("")}),
	} {
		wantWithin(t, s, v, api.ErrDup)
	}
	wantWithin(t, s, both(41, num(1), 52, str("a")), nil)
	wantWithin(t, s, both(24, list(one(41, num(1)), one(42, str(""))), 43, one(41, num(1))), nil) // of unlike messages
}

// P14.1: Rests that aren't records, in each message.
func TestRestIsNoRecords(t *testing.T) {
	s := compiled(t, wide)
	for rest, want := range map[string]error{
		"\x80":                           api.ErrShort, // a tag's varint
		"\x48":                           api.ErrShort,
		"\x49\x01\x02\x03\x04\x05\x06\a": api.ErrShort,
		"\x4a\x02a":                      api.ErrShort,
		"\x4d\x01\x02\x03":               api.ErrShort,
		"\x48\x01\x48":                   api.ErrShort,
		"\x4b":                           api.ErrGroup,
		"\x4c":                           api.ErrGroup,
		"\x4e":                           api.ErrKind,
		"\x4f":                           api.ErrKind,
		"\x00":                           api.ErrTag,
		"\x02\x01a":                      api.ErrTag,
		"\x80\x80\x80\x80\x10":           api.ErrTag,
		"\xff\xff\xff\xff\xff\xff\xff\xff\xff\xff\x01":     api.ErrVarint,
		"\x48\xff\xff\xff\xff\xff\xff\xff\xff\xff\xff\x01": api.ErrVarint,
		"\x08\x01\x4b": api.ErrGroup, // ahead of a known record, wherever it stands
		"\x4b\x08\x01": api.ErrGroup,
		"\x08\x01\x48": api.ErrShort,
	} {
		wantWithin(t, s, message(rest), want)
		wantCheck(t, s, 2, message(rest), want)
	}
}

// P14.1: Rests of known records, and of others.
func TestRestIsKnown(t *testing.T) {
	s := compiled(t, wide)
	for _, rest := range []string{
		"\x08\x01", "\x08\x00", "\x08\x80\x00", "\x12\x00", "\x12\x01a", "\x22\x00", "\x31\x00\x00\x00\x00\x00\x00\x00\x00", // of fields 1, 2, 4, 6
		"\x58\x01", "\x7a\x00\x78\x01", // of 11, and of 15 behind one that isn't known
		"\xa8\x01\x05", "\xaa\x01\x01\x05", "\xcd\x01\x05\x00\x00\x00", "\xca\x01\x00", // of 21 and 25, alone and packed
		"\xb2\x01\x00", "\xfa\x01\x00", "\x82\x02\x00", "\xc8\x02\x00", "\xd2\x02\x00", // of 22, 31, 32, 41, 42
		"\x48\x01\x08\x01", "\x08\x01\x48\x01", "\x4a\x01a\x12\x00\x48\x01",
	} {
		wantWithin(t, s, message(rest), api.ErrTag)
		wantCheck(t, s, 2, message(rest), nil)
	}
	for _, rest := range []string{
		"", "\x48\x01", "\x48\x81\x00", "\x4a\x00", "\x4a\x02\xff\x00", "\x4d\x01\x02\x03\x04", "\x49\x01\x02\x03\x04\x05\x06\x07\x08", "\xf8\xff\xff\xff\x0f\x01", "\x48\x01\x48\x01\x4a\x00",
		"\x0a\x01\x05", "\x0d\x01\x00\x00\x00", "\x10\x01", "\x20\x01", "\x30\x01", // of 1, 2, 4, 6, but of other kinds
		"\x5a\x01\x05", "\x7a\x00", "\xad\x01\x05\x00\x00\x00", "\xc8\x01\x05", // of 11, 15, 21, 25
		"\xb0\x01\x00", "\xf8\x01\x05", "\xca\x02\x00", // of 22, 31, 41
		"\x4a\x02\x08\x01", // a text that is known records' bytes
	} {
		wantWithin(t, s, message(rest), nil)
	}
}

// P14.1: of several faults the first one is told: by fields, then of oneofs, then of the Rest.
func TestFirstFault(t *testing.T) {
	s := compiled(t, wide)
	dup := []value.Field{{Number: 41, Value: num(1)}, {Number: 42, Value: str("a")}}
	for _, x := range []struct {
		v    value.Value
		want error
	}{
		{both(1, num(0), 90, num(1)), api.ErrKind},
		{both(2, str("\xff"), 90, num(1)), api.ErrRune},
		{both(7, num(1), 11, str("a")), api.ErrTag},
		{both(1, num(0), 2, str("\xff")), api.ErrKind},
		{both(2, str("\xff"), 3, num(1)), api.ErrRune},
		{one(22, list(str("\xff"), num(1))), api.ErrRune},
		{one(22, list(num(1), str("\xff"))), api.ErrKind},
		{one(24, list(one(99, num(1)), num(1))), api.ErrTag},
		{one(24, list(num(1), one(99, num(1)))), api.ErrKind},
		{one(24, list(message("\x48"), message("\x4b"))), api.ErrShort},
		{one(32, table(pair(str("\xff"), num(1)))), api.ErrRune}, // key ahead of value
		{one(32, table(pair(num(1), str("\xff")))), api.ErrKind},
		{one(32, table(pair(str("a"), str("\xff")), pair(str("b"), num(1)))), api.ErrRune}, // pair by pair
		{one(32, table(pair(str("a"), num(1)), pair(str("\xff"), str("a")))), api.ErrKind},
		{one(33, table(pair(num(0), one(99, num(1))), pair(num(2), num(1)))), api.ErrTag},
		{message("", append(slices.Clone(dup), value.Field{Number: 90, Value: num(1)})...), api.ErrTag},
		{message("", append(slices.Clone(dup), value.Field{Number: 60, Value: message("\x4b")})...), api.ErrGroup}, // within a field, ahead of oneofs
		{message("\x4b", dup...), api.ErrDup},
		{message("\x08\x01", dup...), api.ErrDup},
		{message("\x4b", value.Field{Number: 2, Value: str("\xff")}), api.ErrRune},
		{message("\x08\x01", value.Field{Number: 1, Value: num(0)}), api.ErrKind},
		{message("\x48", value.Field{Number: 4, Value: message("\x08\x01")}), api.ErrTag},
		{message("\x08\x01", value.Field{Number: 4, Value: message("\x48")}), api.ErrShort},
		{both(4, message("", dup...), 14, one(90, num(1))), api.ErrDup},
		{both(4, message("\x4b"), 14, message("", dup...)), api.ErrGroup},
		{message("\x08\x01\x48"), api.ErrShort}, // a record that is known stands behind what is none
	} {
		wantWithin(t, s, x.v, x.want)
	}
}

// P14.1: Known, Plain and Wire of fields of all labels and kinds, against the model.
func TestFields(t *testing.T) {
	for _, name := range slices.Concat(kindNames, []string{"A"}) {
		text := head + "message A { " + name + " a = 1; optional " + name + " b = 3; repeated " + name + " c = 5; map<string, " + name + "> d = 7; oneof o { " + name + " e = 9; } "
		if !slices.Contains([]string{"string", "bytes", "A"}, name) {
			text += "repeated " + name + " f = 11 [packed = false]; repeated " + name + " g = 536870911 [packed = true]; "
		}
		if slices.Contains(keyNames, name) {
			text += "map<" + name + ", int32> h = 15; "
		}
		wantFields(t, compiled(t, text+"} enum E { Z = 0; }"), 0)
	}
}

// P14.1: Known, Plain and Wire, written out.
func TestFieldsWrittenOut(t *testing.T) {
	s := compiled(t, wide)
	for number, x := range map[int]struct {
		plain bool
		wire  int
		known []int
	}{
		1: {true, 0, []int{0}}, 2: {true, 2, []int{2}}, 3: {true, 2, []int{2}}, 4: {true, 2, []int{2}}, 5: {true, 0, []int{0}}, 6: {true, 1, []int{1}},
		11: {false, 0, []int{0}}, 12: {false, 2, []int{2}}, 14: {false, 2, []int{2}},
		21: {false, 2, []int{0, 2}}, 22: {false, 2, []int{2}}, 24: {false, 2, []int{2}}, 25: {false, 5, []int{2, 5}}, 26: {false, 2, []int{0, 2}},
		31: {false, 2, []int{2}}, 33: {false, 2, []int{2}}, 35: {false, 2, []int{2}},
		41: {false, 0, []int{0}}, 42: {false, 2, []int{2}}, 43: {false, 2, []int{2}}, 60: {true, 2, []int{2}},
		7: {}, 0: {}, -1: {}, 61: {}, math.MaxInt: {}, math.MinInt: {}, // no fields
	} {
		var known []int
		for wire := -9; wire <= 9; wire++ {
			if Known(s, 0, tag.Tag{Number: number, Wire: wire}) {
				known = append(known, wire)
			}
		}
		if !slices.Equal(known, x.known) {
			t.Errorf("records of field %d are known of %v, want %v", number, known, x.known)
		}
		if f, is := s.Field(0, number); is && (Plain(f) != x.plain || Wire(f) != x.wire) {
			t.Errorf("field %d: Plain %v, Wire %d, want %v, %d", number, Plain(f), Wire(f), x.plain, x.wire)
		}
	}
}

// P14.1: parts, of fields of all labels: the label isn't asked, nor whether the field is plain.
func TestPart(t *testing.T) {
	s := compiled(t, wide)
	wrong := []value.Value{{}, {Kind: 6}, {Kind: -1}, list(num(1)), list(message("")), table(pair(num(1), num(1)))}
	for _, f := range s.Messages[0].Fields {
		for _, v := range wrong {
			wantPart(t, s, f, v, api.ErrKind)
		}
		for _, x := range []struct {
			v    value.Value
			want map[int]error // by kinds: others are ErrKind
		}{
			{num(0), map[int]error{1: nil, 3: nil, 8: nil, 9: nil, 13: nil, 16: nil}},
			{num(2), map[int]error{1: nil, 3: nil, 8: nil, 9: nil, 16: nil}},
			{num(-1), map[int]error{1: nil, 3: nil, 8: nil, 16: nil}},
			{str(""), map[int]error{14: nil, 15: nil}},
			{str("ä"), map[int]error{14: nil, 15: nil}},
			{str("\xff"), map[int]error{14: api.ErrRune, 15: nil}},
			{message(""), map[int]error{17: nil}},
			{one(1, num(0)), map[int]error{17: api.ErrKind}},
			{one(1, value.Value{}), map[int]error{17: api.ErrForm}},
			{one(90, num(1)), map[int]error{17: api.ErrTag}},
			{message("\x08"), map[int]error{17: api.ErrShort}},
			{message("\x08\x01"), map[int]error{17: api.ErrTag}},
		} {
			want, is := x.want[f.Kind]
			if !is {
				want = api.ErrKind
			}
			wantPart(t, s, f, x.v, want)
		}
	}
	other, _ := s.Field(0, 60)
	wantPart(t, s, other, one(1, num(1)), nil)
	wantPart(t, s, other, one(2, one(41, num(0))), nil)
	wantPart(t, s, other, one(4, message("")), api.ErrTag) // a field of another message
}

// P14.1: schemas and values by chance, against both models: held ones, nearly held ones, and some that aren't right.
func TestMixed(t *testing.T) {
	errs := []error{nil, api.ErrForm, api.ErrTag, api.ErrKind, api.ErrRune, api.ErrDup, api.ErrShort, api.ErrGroup, api.ErrVarint}
	seen := make([]int, len(errs))
	for seed := range uint64(30000) {
		m := newMaker(t, seed)
		m.wrong = pick(m, 0, 10, 40, 100)
		message := m.IntN(3)
		v := m.message(message, 3)
		if m.IntN(20) == 0 {
			v = m.twist(v)
		}
		want := modelCheck(m.s, message, v)
		wantCheck(t, m.s, message, v, want)
		wantPart(t, m.s, schema.Field{Kind: modelMessage, Type: message}, v, partError(v, want))
		seen[slices.IndexFunc(errs, func(err error) bool { return isError(want, err) })]++
		if m.wrong == 0 && want != nil && want != api.ErrForm {
			t.Fatalf("%v isn't held: %v", v, want)
		}
		if seed%10 == 0 {
			for i := range m.s.Messages {
				wantFields(t, m.s, i)
			}
		}
		if t.Failed() {
			t.Fatal(m.s)
		}
	}
	for i, n := range seen {
		if n < 100 {
			t.Errorf("%v came %d times", errs[i], n)
		}
	}
}

// partError is the error of a value as a message's part, if Check's is told.
func partError(v value.Value, err error) error {
	if v.Kind != value.Message {
		return api.ErrKind
	}
	return err
}

// P14.1: parts by chance, of all fields, against both models.
func TestMixedParts(t *testing.T) {
	fit := 0
	for seed := range uint64(10000) {
		m := newMaker(t, seed)
		m.wrong = pick(m, 0, 5)
		for _, x := range m.s.Messages {
			for _, f := range x.Fields {
				v := m.part(f.Kind, f.Type, 2)
				if m.IntN(10) == 0 {
					v = m.twist(v)
				}
				want := modelPart(m.s, f, v)
				wantPart(t, m.s, f, v, want)
				if want == nil {
					fit++
				}
			}
		}
	}
	if fit < 10000 {
		t.Errorf("%d fit", fit)
	}
}

// P14.2: what is held is held without any one of its fields, and without its Rest; so are the messages in it.
func TestLessened(t *testing.T) {
	held, less := 0, 0
	for seed := range uint64(5000) {
		m := newMaker(t, seed)
		message := m.IntN(3)
		v := m.message(message, 2)
		if err := Check(m.s, message, v); err != nil {
			t.Fatalf("%v isn't held: %v", v, err)
		}
		held++
		for _, x := range lessened(v) {
			less++
			if err := Check(m.s, message, x); err != nil {
				t.Fatalf("%v is held, but not %v: %v", v, x, err)
			}
		}
		for len(v.Fields) > 0 { // and without all of them, one by one
			v = value.With(v, v.Fields[m.IntN(len(v.Fields))].Number, value.Value{})
			if err := Check(m.s, message, v); err != nil {
				t.Fatalf("%v isn't held: %v", v, err)
			}
		}
	}
	if held < 5000 || less < 20000 {
		t.Errorf("%d held, %d lessened", held, less)
	}
}

// P14.2: a message with all its fields but those of oneofs that can't stand together, and a Rest.
func TestFullLessened(t *testing.T) {
	s := compiled(t, wide)
	full := message("\x48\x01\x4a\x01a")
	inner := both(1, num(1), 41, num(0))
	inner.Rest = "\x4d\x01\x02\x03\x04"
	for number, v := range map[int]value.Value{
		1: num(1), 2: str("a"), 3: str("\xff"), 4: inner, 5: num(1), 6: num(1), 11: num(0), 12: str(""), 13: str(""), 14: inner, 15: num(0),
		21: list(num(0), num(1)), 22: list(str("")), 23: list(str("\xff")), 24: list(inner, message("")), 25: list(num(1)), 26: list(num(0)), 27: list(one(1, num(1))),
		31: table(pair(num(1), num(0))), 32: table(pair(str(""), str(""))), 33: table(pair(num(0), inner), pair(num(1), inner)), 34: table(pair(str("a"), str(""))), 35: table(pair(num(-1), num(0))),
		43: inner, 51: num(0), 60: one(2, inner),
	} {
		full = value.With(full, number, v)
	}
	wantCheck(t, s, 0, full, nil)
	for _, v := range lessened(full) {
		wantCheck(t, s, 0, v, nil)
	}
}

// deep is a message within as many others, by what is put around each one.
func deep(v value.Value, many int, around func(value.Value) value.Value) value.Value {
	for range many {
		v = around(v)
	}
	return v
}

// P14.1: messages that lie deep within one another: how deep isn't asked, and it doesn't take long.
func TestDeep(t *testing.T) {
	const most = 1 << 15
	s := compiled(t, wide)
	start := time.Now()
	for _, around := range []func(value.Value) value.Value{
		func(v value.Value) value.Value { return one(4, v) },
		func(v value.Value) value.Value { return one(24, list(v)) },
		func(v value.Value) value.Value { return one(33, table(pair(num(1), v))) },
	} {
		for _, x := range []struct {
			v    value.Value
			want error
		}{{message(""), nil}, {one(1, num(0)), api.ErrKind}, {one(1, value.Value{}), api.ErrForm}, {message("\x08\x01"), api.ErrTag}} {
			v := deep(x.v, most, around)
			if err := Check(s, 0, v); !isError(err, x.want) {
				t.Errorf("Check: %v, want %v", err, x.want)
			}
			if err := Part(s, schema.Field{Kind: modelMessage}, v); !isError(err, x.want) {
				t.Errorf("Part: %v, want %v", err, x.want)
			}
		}
	}
	if took := time.Since(start); took > time.Minute {
		t.Errorf("it took %v", took)
	}
}

// P14.1: values of many parts, and a Rest of many records.
func TestLong(t *testing.T) {
	s := compiled(t, wide)
	v := message(strings.Repeat("\x48\x01", 1<<16))
	numbers, pairs := make([]value.Value, 1<<16), make([]value.Pair, 1<<16)
	for i := range numbers {
		numbers[i], pairs[i] = num(int64(i)), pair(num(int64(i)), num(0))
	}
	v = value.With(value.With(v, 21, list(numbers...)), 31, table(pairs...))
	wantCheck(t, s, 0, v, nil)
	v.Rest += "\x08\x01"
	wantCheck(t, s, 0, v, api.ErrTag)
	numbers[len(numbers)-1] = num(1 << 31)
	wantCheck(t, s, 0, v, api.ErrKind)
}

// P14.1: nothing that is handed in is changed, and the same calls have the same answers, in whatever order a map is gone through.
func TestNothingIsChanged(t *testing.T) {
	for seed := range uint64(500) {
		m, same := newMaker(t, seed), newMaker(t, seed)
		m.wrong, same.wrong = 20, 20
		v, w := m.message(0, 3), same.message(0, 3)
		err := Check(m.s, 0, v)
		for range 5 {
			if again := Check(m.s, 0, v); !isError(again, err) {
				t.Fatalf("%v, and then %v", err, again)
			}
			for _, f := range m.s.Messages[0].Fields {
				first, again := Part(m.s, f, v), Part(m.s, f, v)
				if !isError(again, first) {
					t.Fatalf("%v, and then %v", first, again)
				}
			}
		}
		if !reflect.DeepEqual(v, w) || !reflect.DeepEqual(m.s, same.s) {
			t.Fatalf("%v was changed to %v, or %v to %v", w, v, same.s, m.s)
		}
	}
}
