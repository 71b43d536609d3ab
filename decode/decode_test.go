package decode

import (
	"bytes"
	"encoding/binary"
	"math"
	"reflect"
	"slices"
	"strings"
	"testing"
	"time"

	"redline/api"
	"redline/encode"
	"redline/hold"
	"redline/schema"
	"redline/syntax"
	"redline/value"
)

// P16.1: the limits, written out.
func TestLimits(t *testing.T) {
	if got := Values(); got != (Limits{Depth: 8, Bytes: 4096}) {
		t.Errorf("Values: %v", got)
	}
	if got := Scripts(); got != (Limits{Depth: 64, Bytes: 262144}) {
		t.Errorf("Scripts: %v", got)
	}
}

// P16.1: the chapter's example, and what stands near to it.
func TestExamples(t *testing.T) {
	s := compiled(t, head+"message A { int32 x = 1; }")
	wantValue(t, s, 0, "\x08\x01\x08\x00", empty())
	wantValue(t, s, 0, "\x08\x01", one(1, num(1)))
	wantValue(t, s, 0, "\x08\x00\x08\x01", one(1, num(1)))
	wantValue(t, s, 0, "", empty())
	if v, err := Of(s, 0, nil, Values()); err != nil || !reflect.DeepEqual(v, empty()) {
		t.Errorf("Of of no bytes: %v, %v", v, err)
	}
}

// allKinds has a field of each kind, by the kind's number.
const allKinds = `message A { double a = 1; float b = 2; int32 c = 3; int64 d = 4; uint32 e = 5; uint64 f = 6; sint32 g = 7; sint64 h = 8;
  fixed32 i = 9; fixed64 j = 10; sfixed32 k = 11; sfixed64 l = 12; bool m = 13; string n = 14; bytes o = 15; E p = 16; A q = 17; } enum E { Z = 0; }`

const (
	full   = "\xff\xff\xff\xff\xff\xff\xff\xff\xff\x01" // the varint of 2^64 - 1
	beyond = "\x83\x80\x80\x80\x10"                     // the varint of 2^32 + 3
)

// P16.1: what records say of each kind.
func TestKinds(t *testing.T) {
	s := compiled(t, head+allKinds)
	for _, x := range []struct {
		b    string
		n    int
		want value.Value
	}{
		{"\x09\x00\x00\x00\x00\x00\x00\xf0\xbf", 1, value.Num(math.Float64bits(-1))},
		{"\x09\x00\x00\x00\x00\x00\x00\x00\x80", 1, value.Num(1 << 63)}, // not 0, as its bits aren't
		{"\x15\x00\x00\x80\x3f", 2, value.Num(uint64(math.Float32bits(1)))},
		{"\x15\x00\x00\x00\x80", 2, num(1 << 31)},
		{"\x18\x01", 3, num(1)}, {"\x18" + full, 3, num(-1)}, {"\x18" + beyond, 3, num(3)}, {"\x18\xff\xff\xff\xff\x0f", 3, num(-1)}, {"\x18\x80\x80\x80\x80\x08", 3, num(-1 << 31)},
		{"\x20" + full, 4, num(-1)}, {"\x20" + beyond, 4, num(1<<32 + 3)},
		{"\x28" + full, 5, num(1<<32 - 1)}, {"\x28" + beyond, 5, num(3)},
		{"\x30" + full, 6, num(-1)}, {"\x30" + beyond, 6, num(1<<32 + 3)},
		{"\x38\x03", 7, num(-2)}, {"\x38" + full, 7, num(-1 << 31)}, {"\x38" + beyond, 7, num(-2)}, {"\x38\xfe\xff\xff\xff\x0f", 7, num(1<<31 - 1)},
		{"\x40\x03", 8, num(-2)}, {"\x40" + full, 8, num(-1 << 63)}, {"\x40\x80\x01", 8, num(64)},
		{"\x4d\xff\xff\xff\xff", 9, num(1<<32 - 1)},
		{"\x51\xff\xff\xff\xff\xff\xff\xff\xff", 10, num(-1)},
		{"\x5d\xff\xff\xff\xff", 11, num(-1)}, {"\x5d\x01\x00\x00\x80", 11, num(-1<<31 + 1)},
		{"\x61\xfe\xff\xff\xff\xff\xff\xff\xff", 12, num(-2)},
		{"\x68\x01", 13, num(1)}, {"\x68\x02", 13, num(1)}, {"\x68" + full, 13, num(1)}, {"\x68\x80\x80\x80\x80\x10", 13, num(1)},
		{"\x72\x03a\xc3\xa4", 14, str("aä")}, {"\x72\x01\x00", 14, str("\x00")},
		{"\x7a\x02\xff\x00", 15, str("\xff\x00")},
		{"\x80\x01\x07", 16, num(7)}, {"\x80\x01" + full, 16, num(-1)}, {"\x80\x01" + beyond, 16, num(3)},
		{"\x8a\x01\x00", 17, empty()}, {"\x8a\x01\x02\x18\x01", 17, one(3, num(1))}, {"\x8a\x01\x05\x8a\x01\x02\x18\x01", 17, one(17, one(3, num(1)))},
		{"\x98\x80\x00\x81\x80\x00", 3, num(1)}, {"\xf2\x00\x81\x00a", 14, str("a")}, // varints that aren't the shortest
	} {
		wantValue(t, s, 0, x.b, one(x.n, x.want))
		wantValue(t, s, 0, text(17, x.b), one(17, one(x.n, x.want)))
	}
	for _, b := range []string{
		"\x09\x00\x00\x00\x00\x00\x00\x00\x00", "\x15\x00\x00\x00\x00", "\x18\x00", "\x20\x00", "\x28\x00", "\x30\x00", "\x38\x00", "\x40\x00", "\x4d\x00\x00\x00\x00",
		"\x51\x00\x00\x00\x00\x00\x00\x00\x00", "\x5d\x00\x00\x00\x00", "\x61\x00\x00\x00\x00\x00\x00\x00\x00", "\x68\x00", "\x72\x00", "\x7a\x00", "\x80\x01\x00",
		"\x18\x80\x80\x80\x80\x10", "\x28\x80\x80\x80\x80\x10", "\x38\x80\x80\x80\x80\x10", "\x80\x01\x80\x80\x80\x80\x10", // 2^32 is 0, where the lowest 32 bits count
		"\x18\x80\x00",
	} {
		wantValue(t, s, 0, b, empty())
	}
}

// labels has fields of all labels, of which those with greater numbers stand first in the text.
const labels = head + `
message C { }
message A {
  map<int32, string> m = 31; map<string, A> ma = 32; map<bool, sint32> mn = 33; map<sfixed32, double> mf = 34; map<string, E> me = 35; map<sint64, bytes> mb = 36;
  oneof x { int32 xn = 41; string xs = 42; A xa = 43; B xb = 44; }
  oneof y { int32 yn = 45; string ys = 46; }
  repeated int32 r = 21; repeated int32 ru = 22 [packed = false]; repeated string rs = 23; repeated A ra = 24; repeated fixed32 rf = 25; repeated sint64 rz = 26 [packed = true]; repeated double rd = 27 [packed = false]; repeated B rk = 28 [key = id]; repeated E re = 29; repeated bool rb = 30; repeated bytes ry = 37;
  optional int32 o = 11; optional string os = 12; optional A oa = 13; optional bytes ob = 14;
  int32 n = 1; string s = 2; A a = 3; B b = 4; bytes by = 5;
}
message B { int32 id = 1; bytes up = 2; repeated int32 l = 3; map<int32, int32> m = 4; B b = 5; oneof z { int32 p = 6; int32 q = 7; } }
enum E { Z = 0; }`

const (
	atA = 1
	atB = 2
)

// P16.1: fields of the labels Single and Optional.
func TestSingle(t *testing.T) {
	s := compiled(t, labels)
	for _, x := range []struct {
		b    string
		want value.Value
	}{
		{"\x08\x01\x08\x02", one(1, num(2))}, {"\x08\x01\x08\x00", empty()}, {"\x08\x00", empty()}, {"\x08\x01\x08\x00\x08\x03", one(1, num(3))},
		{"\x12\x01a\x12\x01b", one(2, str("b"))}, {"\x12\x01a\x12\x00", empty()}, {"\x2a\x01\xff\x2a\x00", empty()}, {"\x2a\x00\x2a\x01\xff", one(5, str("\xff"))},
		{"\x58\x01\x58\x00", one(11, num(0))}, {"\x58\x00", one(11, num(0))}, {"\x58\x00\x58\x02", one(11, num(2))}, {"\x62\x01a\x62\x00", one(12, str(""))}, {"\x72\x00", one(14, str(""))},
		{"\x12\x01a\x08\x01", both(1, num(1), 2, str("a"))}, // the fields rise, whatever the records do
		{"\x08\x01\x12\x01a\x08\x00", one(2, str("a"))},
		{"\x1a\x00", one(3, empty())}, {"\x6a\x00", one(13, empty())}, {"\x1a\x00\x1a\x00", one(3, empty())},
		{"\x1a\x02\x08\x01\x1a\x03\x12\x01a", one(3, both(1, num(1), 2, str("a")))}, // messages are read into one another
		{"\x1a\x02\x08\x01\x1a\x02\x08\x02", one(3, one(1, num(2)))}, {"\x1a\x02\x08\x01\x1a\x00", one(3, one(1, num(1)))},
		{"\x1a\x02\x08\x01\x1a\x02\x08\x00", one(3, empty())}, // it is there still
		{"\x6a\x02\x08\x01\x6a\x02\x58\x00", one(13, both(1, num(1), 11, num(0)))},
		{"\x22\x03\x1a\x01\x01\x08\x01\x22\x04\x1a\x02\x02\x03", both(1, num(1), 4, one(3, numbers(1, 2, 3)))},
		{text(4, text(5, "\x08\x01")+"\x08\x07") + text(4, text(5, "\x12\x01a")+text(5, "\x08\x02")), one(4, both(1, num(7), 5, both(1, num(2), 2, str("a"))))},
		{text(3, "\x7a\x01a") + "\x7a\x01b" + text(3, "\x7a\x01c\x08\x01"), message("\x7a\x01b", field(3, message("\x7a\x01a\x7a\x01c", field(1, num(1)))))}, // Rests, too
		{text(4, text(4, "\x08\x01\x10\x01")+text(4, "\x08\x02\x10\x02")) + text(4, text(4, "\x08\x01\x10\x03")+text(4, "\x10\x04")), one(4, one(4, table(pair(num(0), num(4)), pair(num(1), num(3)), pair(num(2), num(2)))))},
	} {
		wantValue(t, s, atA, x.b, x.want)
		wantValue(t, s, atA, text(24, x.b)+"\x08\x01", both(1, num(1), 24, list(x.want)))
		wantValue(t, s, atA, text(24, x.b)+text(24, x.b), one(24, list(x.want, x.want)))
		wantValue(t, s, atA, text(32, text(2, x.b)), one(32, table(pair(str(""), x.want))))
	}
}

// P16.1: fields of oneofs.
func TestOneof(t *testing.T) {
	s := compiled(t, labels)
	const n, ns, txt, a, b, yn, ys = "\xc8\x02\x01", "\xc8\x02\x00", "\xd2\x02\x01a", "\xda\x02\x02\x08\x01", "\xe2\x02\x02\x08\x02", "\xe8\x02\x05", "\xf2\x02\x01y"
	for _, x := range []struct {
		b    string
		want value.Value
	}{
		{n, one(41, num(1))}, {ns, one(41, num(0))}, {n + ns, one(41, num(0))}, {txt, one(42, str("a"))}, {"\xd2\x02\x00", one(42, str(""))}, {a, one(43, one(1, num(1)))}, {"\xda\x02\x00", one(43, empty())},
		{n + txt, one(42, str("a"))}, {txt + n, one(41, num(1))}, {txt + ns, one(41, num(0))}, {n + txt + "\xd2\x02\x00", one(42, str(""))},
		{a + b, one(44, one(1, num(2)))}, {b + a, one(43, one(1, num(1)))}, {a + n, one(41, num(1))},
		{a + n + "\xda\x02\x03\x12\x01b", one(43, one(2, str("b")))}, // not into what went
		{a + b + "\xda\x02\x00", one(43, empty())},
		{a + "\xda\x02\x03\x12\x01b", one(43, both(1, num(1), 2, str("b")))},                                                                  // but into what is there
		{n + yn, both(41, num(1), 45, num(5))}, {yn + n + txt, both(42, str("a"), 45, num(5))}, {yn + ys + n, both(41, num(1), 46, str("y"))}, // another oneof's stay
		{"\x08\x01" + n + "\x12\x01a" + txt, message("", field(1, num(1)), field(2, str("a")), field(42, str("a")))},
		{n + "\xd0\x02\x00", message("\xd0\x02\x00", field(41, num(1)))}, {txt + "\xca\x02\x00", message("\xca\x02\x00", field(42, str("a")))}, // records that aren't known let nothing go
		{text(44, "\x30\x00") + text(44, "\x38\x00"), one(44, one(7, num(0)))}, // a oneof within one
	} {
		wantValue(t, s, atA, x.b, x.want)
		wantValue(t, s, atA, text(3, x.b), one(3, x.want))
	}
}

// P16.1: fields of the label Repeated, packed and not, whatever the schema tells.
func TestRepeated(t *testing.T) {
	s := compiled(t, labels)
	for _, x := range []struct {
		b    string
		want value.Value
	}{
		{"\xaa\x01\x03\x01\x00\x02", one(21, numbers(1, 0, 2))}, {"\xa8\x01\x00", one(21, numbers(0))}, {"\xa8\x01\x05\xaa\x01\x02\x06\x07\xa8\x01\x08\xaa\x01\x01\x00", one(21, numbers(5, 6, 7, 8, 0))},
		{"\xb2\x01\x03\x01\x00\x02", one(22, numbers(1, 0, 2))}, {"\xb0\x01\x00\xb0\x01\x01", one(22, numbers(0, 1))}, {"\xb2\x01\x01\x01\xb0\x01\x02", one(22, numbers(1, 2))},
		{"\xaa\x01\x00", empty()}, {"\xb2\x01\x00", empty()}, {"\xca\x01\x00", empty()}, {"\xaa\x01\x00\xa8\x01\x03\xaa\x01\x00", one(21, numbers(3))}, // no numbers
		{"\xaa\x01\x0b" + full + "\x01", one(21, numbers(-1, 1))}, {"\xaa\x01\x06" + beyond + "\x01", one(21, numbers(3, 1))}, {"\xaa\x01\x04\x81\x80\x00\x02", one(21, numbers(1, 2))},
		{"\xca\x01\x08\x01\x00\x00\x00\xff\xff\xff\xff", one(25, numbers(1, 1<<32-1))}, {"\xcd\x01\x00\x00\x00\x00\xca\x01\x04\x02\x00\x00\x00", one(25, numbers(0, 2))},
		{"\xd2\x01\x03\x03\x80\x01", one(26, numbers(-2, 64))}, {"\xd0\x01\x01", one(26, numbers(-1))},
		{"\xda\x01\x10\x01\x00\x00\x00\x00\x00\x00\x00\x00\x00\x00\x00\x00\x00\x00\x80", one(27, list(num(1), value.Num(1<<63)))}, {"\xd9\x01\x00\x00\x00\x00\x00\x00\x00\x00", one(27, numbers(0))},
		{"\xea\x01\x0b\x07" + full, one(29, numbers(7, -1))}, {"\xf2\x01\x03\x00\x02\x01\xf0\x01\x09", one(30, numbers(0, 1, 1, 1))},
		{"\xba\x01\x01b\xba\x01\x00\xba\x01\x01a\xba\x01\x01b", one(23, list(str("b"), str(""), str("a"), str("b")))}, {"\xaa\x02\x01\xff\xaa\x02\x00", one(37, list(str("\xff"), str("")))},
		{"\xc2\x01\x02\x08\x01\xc2\x01\x00\xc2\x01\x02\x08\x00\xc2\x01\x03\x12\x01a", one(24, list(one(1, num(1)), empty(), empty(), one(2, str("a"))))}, // not into one another
		{text(28, "\x08\x01") + text(28, "\x08\x01\x12\x01a"), one(28, list(one(1, num(1)), both(1, num(1), 2, str("a"))))},                              // elements of one key neither
		{"\xaa\x01\x01\x01\x08\x07\xa8\x01\x02", both(1, num(7), 21, numbers(1, 2))},
	} {
		wantValue(t, s, atA, x.b, x.want)
		wantValue(t, s, atA, text(3, x.b), one(3, x.want))
	}
}

// P16.1: fields of the label Map.
func TestMap(t *testing.T) {
	s := compiled(t, labels)
	m := func(b string) string { return text(31, b) }
	ma := func(b string) string { return text(32, b) }
	for _, x := range []struct {
		b    string
		want value.Value
	}{
		{m("\x08\x01\x12\x01a"), one(31, table(pair(num(1), str("a"))))},
		{m("\x12\x01a\x08\x01"), one(31, table(pair(num(1), str("a"))))},
		{m(""), one(31, table(pair(num(0), str(""))))}, {m("\x08\x01"), one(31, table(pair(num(1), str(""))))}, {m("\x12\x01a"), one(31, table(pair(num(0), str("a"))))}, // without one
		{m("\x08\x01\x08\x02\x12\x01a\x12\x01b"), one(31, table(pair(num(2), str("b"))))}, {m("\x08\x01\x12\x01a\x08\x00\x12\x00"), one(31, table(pair(num(0), str(""))))}, // the last ones
		{m("\x08\x01\x12\x01a\x18\x07\x22\x01z"), one(31, table(pair(num(1), str("a"))))},                                                    // others
		{m("\x0a\x01\x05\x12\x01a"), one(31, table(pair(num(0), str("a"))))}, {m("\x08\x01\x10\x05"), one(31, table(pair(num(1), str(""))))}, // of other wire kinds
		{m("\x08\x02\x0d\x01\x00\x00\x00\x12\x01a\x11\x01\x00\x00\x00\x00\x00\x00\x00"), one(31, table(pair(num(2), str("a"))))},
		{m("\x08" + beyond), one(31, table(pair(num(3), str(""))))},
		{m("\x08\x02\x12\x01b") + m("\x08\x01\x12\x01a") + m("\x08"+full), one(31, table(pair(num(1), str("a")), pair(num(2), str("b")), pair(num(-1), str(""))))}, // they rise
		{m("\x08\x01\x12\x01a") + m("\x08\x02") + m("\x08\x01\x12\x01b"), one(31, table(pair(num(1), str("b")), pair(num(2), str(""))))},                           // in place of that of its key
		{m("\x08\x01\x12\x01a") + m("\x08\x01"), one(31, table(pair(num(1), str(""))))}, {m("\x08\x01") + m("\x08\x01\x12\x01a") + m("\x08"+"\x81\x80\x80\x80\x10\x12\x01c"), one(31, table(pair(num(1), str("c"))))},
		{ma("\x0a\x01k\x12\x02\x08\x01"), one(32, table(pair(str("k"), one(1, num(1)))))}, {ma("\x0a\x01k"), one(32, table(pair(str("k"), empty())))}, {ma(""), one(32, table(pair(str(""), empty())))},
		{ma("\x12\x02\x08\x01\x0a\x01k\x12\x03\x12\x01a"), one(32, table(pair(str("k"), both(1, num(1), 2, str("a")))))},       // into one another within an entry
		{ma("\x0a\x01k\x12\x02\x08\x01") + ma("\x0a\x01k\x12\x03\x12\x01a"), one(32, table(pair(str("k"), one(2, str("a")))))}, // but not from entry to entry
		{ma("\x0a\x01k\x12\x02\x08\x01") + ma("\x0a\x01k"), one(32, table(pair(str("k"), empty())))},
		{ma("\x0a\x01b") + ma("\x0a\x01a") + ma("\x0a\x02aa") + ma(""), one(32, table(pair(str(""), empty()), pair(str("a"), empty()), pair(str("aa"), empty()), pair(str("b"), empty())))},
		{ma("\x0a\x01k\x12\x04\x7a\x02\x18\x01\x18\x01"), one(32, table(pair(str("k"), message("\x7a\x02\x18\x01"))))},                                  // an entry has no Rest, the message in it has
		{text(33, "\x08\x02\x10\x03"), one(33, table(pair(num(1), num(-2))))}, {text(33, "\x08\x01\x12\x01\x03"), one(33, table(pair(num(1), num(0))))}, // a number in an entry isn't packed
		{text(33, "\x08\x05\x10\x02") + text(33, "\x08\x01\x10\x04") + text(33, ""), one(33, table(pair(num(0), num(0)), pair(num(1), num(2))))},
		{text(34, "\x0d\xff\xff\xff\xff\x11\x00\x00\x00\x00\x00\x00\x00\x80") + text(34, "\x0d\x01\x00\x00\x00"), one(34, table(pair(num(1), num(0)), pair(num(-1), value.Num(1<<63))))},
		{text(35, "\x0a\x00\x10"+full), one(35, table(pair(str(""), num(-1))))},
		{text(36, "\x08\x01\x12\x02\xff\xfe") + text(36, "\x08\x02"), one(36, table(pair(num(1), str("")), pair(num(-1), str("\xff\xfe"))))},
		{m("\x08\x01") + "\x08\x07" + m("\x08\x02"), both(1, num(7), 31, table(pair(num(1), str("")), pair(num(2), str(""))))},
	} {
		wantValue(t, s, atA, x.b, x.want)
		wantValue(t, s, atA, text(3, x.b), one(3, x.want))
		wantValue(t, s, atA, ma("\x0a\x01k"+text(2, x.b)), one(32, table(pair(str("k"), x.want))))
	}
}

// P16.1: of one key the last pair counts, however many there are, and the pairs rise.
func TestMapOfMany(t *testing.T) {
	s := compiled(t, labels)
	b := ""
	want := table()
	for n := range 60 {
		b += text(33, string([]byte{8, byte(n % 2), 16, byte(2 * n)})) + text(31, string([]byte{8, byte(59 - n)}))
		want.Pairs = append(want.Pairs, pair(num(int64(n)), str("")))
	}
	wantValue(t, s, atA, b, both(31, want, 33, table(pair(num(0), num(58)), pair(num(1), num(59)))))
}

// P16.1: records that aren't known come to the Rest as they stand, in order.
func TestRest(t *testing.T) {
	s := compiled(t, labels)
	for _, rest := range []string{
		"\x30\x01", "\x30\x81\x80\x00", "\xb0\x80\x00\x01", "\x31\x01\x02\x03\x04\x05\x06\x07\x08", "\x35\x01\x02\x03\x04", "\x32\x00", "\x32\x82\x00\x08\x01", // of a number that no field has
		"\x0a\x02\x08\x01", "\x09\x01\x02\x03\x04\x05\x06\x07\x08", "\x0d\x01\x02\x03\x04", "\x10\x01", "\x18\x01", "\x1d\x01\x02\x03\x04", // of another wire kind
		"\x5a\x01\x01", "\xca\x02\x01\x01", // numbers are packed in lists alone
		"\xad\x01\x01\x02\x03\x04", "\xc8\x01\x01", "\xb8\x01\x01", "\xf8\x01\x01", "\xfd\x01\x01\x02\x03\x04",
		"\xf8\xff\xff\xff\x0f\x00", "\x32\x01\xff", "\x30\x01\x32\x00\x30\x01",
	} {
		wantValue(t, s, atA, rest, message(rest))
		wantValue(t, s, 0, rest, message(rest))
		wantValue(t, s, atA, "\x08\x01"+rest+"\x12\x01a\x30\x07\x08\x02"+rest, message(rest+"\x30\x07"+rest, field(1, num(2)), field(2, str("a"))))
		wantValue(t, s, atA, text(24, rest)+rest, message(rest, field(24, list(message(rest)))))
		wantValue(t, s, atA, text(31, "\x08\x01"+text(3, rest)), one(31, table(pair(num(1), str("")))))
	}
}

// P16.1: errors of bytes, alone and at each place where bytes may stand.
func TestErrors(t *testing.T) {
	s := compiled(t, labels)
	for _, x := range []struct {
		b    string
		want error
	}{
		{"\x08", api.ErrShort}, {"\x80", api.ErrShort}, {"\x12", api.ErrShort}, {"\x12\x02a", api.ErrShort}, {"\x15\x01\x02\x03", api.ErrShort}, {"\x11\x01\x02\x03\x04\x05\x06\x07", api.ErrShort}, {"\x32\xff\xff\xff\xff\xff\xff\xff\xff\x7f", api.ErrShort},
		{"\x08\xff\xff\xff\xff\xff\xff\xff\xff\xff\x02", api.ErrVarint}, {"\xff\xff\xff\xff\xff\xff\xff\xff\xff\xff", api.ErrVarint}, {"\x12\x80\x80\x80\x80\x80\x80\x80\x80\x80\x80\x00", api.ErrVarint},
		{"\x00\x01", api.ErrTag}, {"\x80\x80\x80\x80\x10\x00", api.ErrTag}, {"\x0b", api.ErrGroup}, {"\x0c", api.ErrGroup}, {"\x33", api.ErrGroup}, {"\x0e\x00", api.ErrKind}, {"\x37", api.ErrKind},
		{"\x12\x01\xff", api.ErrRune}, {"\x62\x02a\xc3", api.ErrRune}, {"\xba\x01\x03\xed\xa0\x80", api.ErrRune}, {"\xd2\x02\x01\xff", api.ErrRune}, {"\x12\x01\xff\x12\x01a", api.ErrRune}, // also where another one takes its place
		{"\xaa\x01\x02\x01\x80", api.ErrShort}, {"\xaa\x01\x0b\xff\xff\xff\xff\xff\xff\xff\xff\xff\x02\x00", api.ErrVarint}, {"\xb2\x01\x01\x80", api.ErrShort}, {"\xf2\x01\x0a\x80\x80\x80\x80\x80\x80\x80\x80\x80\x80", api.ErrVarint},
		{"\xca\x01\x03\x01\x02\x03", api.ErrShort}, {"\xca\x01\x05\x01\x02\x03\x04\x05", api.ErrShort}, {"\xda\x01\x04\x01\x02\x03\x04", api.ErrShort}, {"\xda\x01\x0f\x01\x02\x03\x04\x05\x06\x07\x08\x01\x02\x03\x04\x05\x06\x07", api.ErrShort},
		{text(31, "\x08"), api.ErrShort}, {text(31, "\x0b"), api.ErrGroup}, {text(31, "\x00"), api.ErrTag}, {text(31, "\x08\x01\x12\x02a"), api.ErrShort}, {text(31, "\x1a"), api.ErrShort}, {text(31, "\x0e"), api.ErrKind},
		{text(31, "\x12\x01\xff"), api.ErrRune}, {text(31, "\x12\x01\xff\x12\x01a"), api.ErrRune}, {text(32, "\x0a\x01\xff"), api.ErrRune}, {text(32, "\x0a\x01\xff\x0a\x01a"), api.ErrRune},
		{text(32, "\x12\x01\x08"), api.ErrShort}, {text(32, "\x12\x03\x12\x01\xff"), api.ErrRune}, {text(32, "\x12\x01\x0b\x12\x00"), api.ErrGroup},
		// The first one that is met, from the left, is told.
		{"\x12\x01\xff\x0b", api.ErrRune}, {"\x0b\x12\x01\xff", api.ErrGroup}, {"\x08\x01\x00", api.ErrTag}, {"\x1a\x01\x0b\x12\x01\xff", api.ErrGroup}, {"\x1a\x03\x12\x01\xff\x0b", api.ErrRune},
		{"\x12\x02\xff", api.ErrShort}, {"\x1a\x04\x12\x01\xff", api.ErrShort}, {"\xaa\x01\x03\x01\x80", api.ErrShort}, {"\xaa\x01\x01\x80\x0b", api.ErrShort}, // of a record ahead of all that it says
		{text(32, "\x0a\x01\xff\x12\x01\x0b"), api.ErrRune}, {text(32, "\x12\x01\x0b\x0a\x01\xff"), api.ErrGroup}, {text(31, "\x12\x01\xff") + "\x0b", api.ErrRune},
	} {
		wantError(t, s, atA, x.b, x.want)
		wantError(t, s, atA, "\x08\x01\x30\x01"+x.b, x.want)
		wantError(t, s, atA, text(3, "\x08\x01"+x.b), x.want)
		wantError(t, s, atA, text(3, "\x08\x01")+text(3, x.b), x.want)
		wantError(t, s, atA, text(24, x.b)+"\x0b", x.want)
		wantError(t, s, atA, text(43, x.b)+"\xc8\x02\x01", x.want)
		wantError(t, s, atA, text(32, "\x0a\x01k"+text(2, x.b))+"\x12\x01\xff", x.want)
	}
	// What lies in records that aren't known isn't asked.
	for _, b := range []string{"\x32\x01\x0b", "\x32\x01\xff", "\x30\x01", text(31, "\x08\x01\x1a\x01\x0b"), text(31, "\x08\x01\x0a\x01\xff")} {
		wantModel(t, s, atA, empty(), []byte(b), Values())
		if _, err := Of(s, atA, []byte(b), Values()); err != nil {
			t.Errorf("% x: %v", b, err)
		}
	}
}

// P16.1: limits and messages that aren't there; what of two is told first.
func TestAsked(t *testing.T) {
	s := compiled(t, labels)
	bad := one(1, num(0)) // not held
	deep := one(3, one(3, empty()))
	for _, x := range []struct {
		message int
		v       value.Value
		b       string
		l       Limits
		want    error
	}{
		{atA, empty(), "", Limits{0, 10}, api.ErrRange}, {atA, empty(), "", Limits{-1, 10}, api.ErrRange}, {atA, empty(), "", Limits{65, 10}, api.ErrRange}, {atA, empty(), "", Limits{1, -1}, api.ErrRange}, {atA, empty(), "", Limits{1, 1<<18 + 1}, api.ErrRange},
		{atA, empty(), "", Limits{math.MinInt, 0}, api.ErrRange}, {atA, empty(), "", Limits{math.MaxInt, 0}, api.ErrRange}, {atA, empty(), "", Limits{1, math.MaxInt}, api.ErrRange}, {atA, empty(), "", Limits{1, math.MinInt}, api.ErrRange}, {atA, empty(), "", Limits{}, api.ErrRange},
		{atA, empty(), "", Limits{1, 0}, nil}, {atA, empty(), "", Limits{64, 1 << 18}, nil}, {atA, empty(), "\x08", Limits{1, 0}, api.ErrLong},
		{-1, empty(), "", Values(), api.ErrNone}, {3, empty(), "", Values(), api.ErrNone}, {math.MaxInt, empty(), "", Values(), api.ErrNone}, {math.MinInt, empty(), "\x0b", Values(), api.ErrNone},
		{3, empty(), "", Limits{0, 0}, api.ErrRange}, {3, value.Value{}, "", Values(), api.ErrNone}, {3, deep, "\x08", Limits{1, 0}, api.ErrNone},
		{atA, value.Value{}, "", Values(), api.ErrForm}, {atA, num(1), "", Values(), api.ErrForm}, {atA, value.Value{}, "", Limits{65, 0}, api.ErrRange}, {atA, list(empty()), "\x08\x01", Values(), api.ErrForm}, {atA, value.Value{Kind: value.Message, Text: "a"}, "", Values(), api.ErrForm}, {atA, both(2, str("a"), 1, num(1)), "", Values(), api.ErrForm}, {atA, one(21, list()), "", Values(), api.ErrForm},
		{atA, bad, "\x08\x01", Values(), api.ErrKind}, {atA, one(6, num(1)), "", Values(), api.ErrTag}, {atA, one(2, str("\xff")), "\x12\x01a", Values(), api.ErrRune}, {atA, both(41, num(1), 42, str("a")), "\xc8\x02\x01", Values(), api.ErrDup}, {atA, message("\x08\x01"), "", Values(), api.ErrTag}, {atA, message("\x08"), "", Values(), api.ErrShort},
		{atA, one(3, one(3, bad)), "\x08", Limits{1, 0}, api.ErrKind}, {atA, deep, "\x08", Limits{2, 0}, api.ErrDepth}, {atA, deep, "", Limits{2, 100}, api.ErrDepth}, {atA, deep, "", Limits{3, 100}, nil}, {atA, deep, "\x0b", Limits{3, 0}, api.ErrLong}, {atA, deep, "\x0b", Limits{3, 1}, api.ErrGroup},
		{atA, one(24, list(one(3, empty()))), "", Limits{2, 100}, api.ErrDepth}, {atA, one(32, table(pair(str(""), one(3, empty())))), "", Limits{2, 100}, api.ErrDepth}, {atA, one(32, table(pair(str(""), one(3, empty())))), "", Limits{3, 100}, nil},
	} {
		want := x.v
		if x.want != nil {
			want = value.Value{}
		}
		wantInto(t, s, x.message, x.v, []byte(x.b), x.l, want, x.want)
	}
	if _, err := Of(s, atA, nil, Limits{0, 0}); !isError(err, api.ErrRange) {
		t.Errorf("Of beyond the limits: %v", err)
	}
	if _, err := Of(s, 3, nil, Values()); !isError(err, api.ErrNone) {
		t.Errorf("Of of no message: %v", err)
	}
	if _, err := Of(schema.Schema{}, 0, nil, Values()); !isError(err, api.ErrNone) {
		t.Errorf("Of of no schema: %v", err)
	}
}

// nested is bytes of so many messages within one another, by the way that is told from each to the next.
func nested(depth int, around func(b string) string, inner string) string {
	for range depth - 1 {
		inner = around(inner)
	}
	return inner
}

// P16.1: how deep messages may lie, at both sides of each limit, by each way in which one lies within another.
func TestDepth(t *testing.T) {
	s := compiled(t, labels)
	for name, around := range map[string]func(b string) string{
		"single":   func(b string) string { return text(3, b) },
		"optional": func(b string) string { return text(13, b) },
		"oneof":    func(b string) string { return text(43, b) },
		"repeated": func(b string) string { return text(24, b) },
		"map":      func(b string) string { return text(32, text(2, b)) },
		"twice":    func(b string) string { return text(3, "") + text(3, b) },
	} {
		for _, deepest := range []int{1, 2, 3, 8, 63, 64} {
			l := Limits{Depth: deepest, Bytes: api.MaxScript}
			for _, inner := range []string{"", "\x08\x01", "\x30\x01"} {
				v, err := Of(s, atA, []byte(nested(deepest, around, inner)), l)
				if err != nil || value.Depth(v) != deepest {
					t.Errorf("%s, %d deep: depth %d, %v", name, deepest, value.Depth(v), err)
				}
				wantModel(t, s, atA, empty(), []byte(nested(deepest, around, inner)), l)
				wantInto(t, s, atA, empty(), []byte(nested(deepest+1, around, inner)), l, value.Value{}, api.ErrDepth)
			}
			// Ahead of what the Text has; behind what is wrong ahead of it.
			wantInto(t, s, atA, empty(), []byte(nested(deepest+1, around, "\x0b")), l, value.Value{}, api.ErrDepth)
			wantInto(t, s, atA, empty(), []byte(nested(deepest, around, "\x12\x01\xff"+around(""))), l, value.Value{}, api.ErrRune)
			wantInto(t, s, atA, empty(), []byte(nested(deepest, around, around("")+"\x0b")), l, value.Value{}, api.ErrDepth)
			wantInto(t, s, atA, empty(), []byte(nested(deepest, around, "\x0b")), l, value.Value{}, api.ErrGroup)
		}
	}
}

// P16.1, P16.2: a map's message that no record tells is there as well, and may lie too deep, which is met at its entry's end.
func TestDepthOfNothing(t *testing.T) {
	s := compiled(t, labels)
	b := text(32, "\x0a\x01k")
	wantInto(t, s, atA, empty(), []byte(b), Limits{2, 100}, one(32, table(pair(str("k"), empty()))), nil)
	wantInto(t, s, atA, empty(), []byte(b), Limits{1, 100}, value.Value{}, api.ErrDepth)
	wantInto(t, s, atA, empty(), []byte(text(32, "")), Limits{1, 100}, value.Value{}, api.ErrDepth)
	wantInto(t, s, atA, empty(), []byte(text(32, "\x0a\x01\xff")), Limits{1, 100}, value.Value{}, api.ErrRune)
	wantInto(t, s, atA, empty(), []byte(text(32, "\x0b")), Limits{1, 100}, value.Value{}, api.ErrGroup)
	wantInto(t, s, atA, empty(), []byte(text(32, "\x12\x00\x0a\x01\xff")), Limits{1, 100}, value.Value{}, api.ErrDepth)
	wantInto(t, s, atA, empty(), []byte(text(31, "")+text(33, "")), Limits{1, 100}, both(31, table(pair(num(0), str(""))), 33, table(pair(num(0), num(0)))), nil)
}

// P16.1: how many bytes there may be: of what is read, and of the value at last.
func TestBytes(t *testing.T) {
	s := compiled(t, labels)
	l := func(n int) Limits { return Limits{Depth: 8, Bytes: n} }
	for _, n := range []int{10, 4096, 1 << 18} {
		x := long(n - 1 - len(binary.AppendUvarint(nil, uint64(n))))
		b := []byte(text(2, x))
		if len(b) != n {
			t.Fatalf("%d bytes, want %d", len(b), n)
		}
		wantInto(t, s, atA, empty(), b, l(n), one(2, str(x)), nil)
		wantInto(t, s, atA, empty(), b, l(min(n+1, 1<<18)), one(2, str(x)), nil)
		wantInto(t, s, atA, empty(), b, l(n-1), value.Value{}, api.ErrLong)
		wantInto(t, s, atA, empty(), append(bytes.Clone(b), 0x0b), l(n), value.Value{}, api.ErrLong) // ahead of what is wrong in them
	}
	five := "\xa8\x01\xff\xff\xff\xff\x0f" // -1 in five bytes, of which ten come, packed
	minus := "\xaa\x01\x0a" + full
	for _, x := range []struct {
		v    value.Value
		b    string
		size int // of the value's own bytes
	}{
		{empty(), five, len(minus)},
		{empty(), text(33, ""), len(text(33, "\x08\x00\x10\x00"))},
		{empty(), "\x18\x00\x08\x01", 4},
		{one(2, str("abc")), "\x08\x01", 7},
		{one(2, str("abcdefghi")), "\x12\x01a", 3}, // what was there may be long, if what comes isn't
		{one(2, str("abcdefghi")), "\x12\x00", 2},
		{one(2, str("abcdefghi")), "", 11},
		{one(43, one(2, str("abcdefghi"))), "\xc8\x02\x01", 3},
		{message("\x32\x03abc"), "\x32\x01a", 8},
		{one(21, numbers(1, 2, 3)), "\xa8\x01\x04", 7},
	} {
		want, err := modelInto(s, atA, x.v, []byte(x.b), Scripts())
		if own, _ := encode.Of(s, atA, want); err != nil || max(len(own), len(x.b)) != x.size {
			t.Fatalf("%v with % x: %d bytes, %v", x.v, x.b, len(own), err)
		}
		wantInto(t, s, atA, x.v, []byte(x.b), l(x.size), want, nil)
		wantInto(t, s, atA, x.v, []byte(x.b), l(x.size-1), value.Value{}, api.ErrLong)
		wantInto(t, s, atA, x.v, []byte(x.b+"\x12\x01\xff"), l(max(x.size, len(x.b)+3)), value.Value{}, api.ErrRune)
	}
}

// P16.1: values into which bytes are read.
func TestInto(t *testing.T) {
	s := compiled(t, labels)
	was := message("\x30\x01", field(1, num(1)), field(2, str("a")), field(3, message("\x31\x01\x02\x03\x04\x05\x06\x07\x08", field(11, num(0)))), field(21, numbers(1, 2)), field(24, list(one(1, num(1)), empty())), field(31, table(pair(num(1), str("a")), pair(num(5), str("")))), field(32, table(pair(str("k"), one(1, num(1))))), field(41, num(0)))
	for _, x := range []struct {
		b    string
		want value.Value
	}{
		{"", was},
		{"\x08\x00", value.With(was, 1, value.Value{})}, {"\x08\x02", value.With(was, 1, num(2))}, {"\x12\x00", value.With(was, 2, value.Value{})}, {"\x12\x01b", value.With(was, 2, str("b"))},
		{"\x58\x00", value.With(was, 11, num(0))}, {"\x22\x00", value.With(was, 4, empty())},
		{"\x1a\x00", was}, {"\x1a\x02\x08\x07", value.With(was, 3, value.With(value.Get(was, 3), 1, num(7)))},
		{"\x1a\x04\x58\x02\x30\x02", value.With(was, 3, message("\x31\x01\x02\x03\x04\x05\x06\x07\x08\x30\x02", field(11, num(2))))},
		{"\xa8\x01\x00", value.With(was, 21, numbers(1, 2, 0))}, {"\xaa\x01\x02\x02\x01", value.With(was, 21, numbers(1, 2, 2, 1))}, {"\xaa\x01\x00", was},
		{"\xc2\x01\x00\xc2\x01\x02\x08\x02", value.With(was, 24, list(one(1, num(1)), empty(), empty(), one(1, num(2))))},
		{text(31, "\x08\x01"), value.With(was, 31, table(pair(num(1), str("")), pair(num(5), str(""))))},
		{text(31, "\x08\x03\x12\x01c"), value.With(was, 31, table(pair(num(1), str("a")), pair(num(3), str("c")), pair(num(5), str(""))))},
		{text(31, "") + text(31, "\x08"+full), value.With(was, 31, table(pair(num(0), str("")), pair(num(1), str("a")), pair(num(5), str("")), pair(num(-1), str(""))))},
		{text(32, "\x0a\x01k\x12\x03\x12\x01b"), value.With(was, 32, table(pair(str("k"), one(2, str("b")))))},
		{text(32, "\x0a\x01j"), value.With(was, 32, table(pair(str("j"), empty()), pair(str("k"), one(1, num(1)))))},
		{"\xc8\x02\x03", value.With(was, 41, num(3))}, {"\xd2\x02\x00", value.With(value.With(was, 41, value.Value{}), 42, str(""))}, {"\xe8\x02\x00", value.With(was, 45, num(0))},
	} {
		wantInto(t, s, atA, was, []byte(x.b), Values(), x.want, nil)
		in := one(3, was)
		wantInto(t, s, atA, in, []byte(text(3, x.b)), Values(), one(3, x.want), nil)
		wantInto(t, s, atA, in, []byte(text(3, "")+text(3, x.b)+text(3, "")), Values(), one(3, x.want), nil)
	}
	rest := was
	rest.Rest += "\x32\x00\x30\x81\x00"
	wantInto(t, s, atA, was, []byte("\x32\x00\x30\x81\x00"), Values(), rest, nil)
	wantInto(t, s, atA, was, []byte("\x08\x02\x0b"), Values(), value.Value{}, api.ErrGroup)
	wantInto(t, s, atA, was, []byte("\x12\x01\xff"), Values(), value.Value{}, api.ErrRune)
	wantInto(t, s, atA, was, []byte(text(3, text(3, ""))), Limits{2, 1000}, value.Value{}, api.ErrDepth)
}

// P16.1, P16.2: all short rows of bytes that matter to one another, alone and into a value; parted at each place.
func TestShortRows(t *testing.T) {
	s := compiled(t, head+`message A { int32 a = 1; repeated sint32 r = 2; A m = 3; map<bool, A> t = 4; string s = 5; oneof o { bool p = 6; string q = 7; } }`)
	was := message("\x41\x00\x00\x00\x00\x00\x00\x00\x00", field(1, num(1)), field(2, numbers(7)), field(3, one(1, num(2))), field(4, table(pair(num(1), one(1, num(3))))), field(6, num(0)))
	signs := []byte{0x00, 0x01, 0x02, 0x03, 0x08, 0x0b, 0x10, 0x12, 0x1a, 0x22, 0x2a, 0x30, 0x3a, 0x40, 0x80, 0xff}
	l := Limits{Depth: 2, Bytes: 64}
	met := map[error]int{}
	var row []byte
	var walk func(left int)
	walk = func(left int) {
		met[wantModel(t, s, 0, empty(), row, l)]++
		met[wantModel(t, s, 0, empty(), row, Limits{Depth: 1, Bytes: 64})]++
		wantModel(t, s, 0, was, row, l)
		for i := range row {
			wantParted(t, s, 0, row[:i], row[i:], l)
		}
		if left == 0 || t.Failed() {
			return
		}
		for _, b := range signs {
			row = append(row, b)
			walk(left - 1)
			row = row[:len(row)-1]
		}
	}
	walk(4)
	for _, err := range []error{nil, api.ErrShort, api.ErrTag, api.ErrGroup, api.ErrRune, api.ErrDepth} {
		if met[err] < 5 {
			t.Errorf("%v was met %d times", err, met[err])
		}
	}
}

// P16.1, P16.2: schemas and bytes by chance, right and spoiled, into nothing and into values, by all limits, against the model.
func TestMixed(t *testing.T) {
	errs := []error{nil, api.ErrShort, api.ErrLong, api.ErrVarint, api.ErrTag, api.ErrGroup, api.ErrKind, api.ErrRune, api.ErrDepth}
	seen := make([]int, len(errs))
	for seed := range uint64(15000) {
		m := newMaker(t, seed)
		at := m.IntN(3)
		for range 4 {
			b := m.message(at, 4)
			if m.IntN(4) == 0 {
				b = m.spoiled(b)
			}
			v := m.heldBy(at, 3)
			err := wantModel(t, m.s, at, empty(), b, m.limits(b))
			seen[slices.IndexFunc(errs, func(want error) bool { return isError(err, want) })]++
			own, _ := encode.Of(m.s, at, v)
			wantModel(t, m.s, at, v, b, m.limits(append(own, b...)))
			wantParted(t, m.s, at, b, m.message(at, 3), pick(m, Values(), Scripts()))
		}
		if t.Failed() {
			t.Fatal(seed)
		}
	}
	for i, n := range seen {
		if n < 20 {
			t.Errorf("%v was met %d times", errs[i], n)
		}
	}
}

// P16.2: bytes by chance, read in two parts at the end of each record, are read as in one; and what is held comes back from its bytes, and from its parts' bytes.
func TestParted(t *testing.T) {
	parted := 0
	for seed := range uint64(3000) {
		m := newMaker(t, seed)
		at := m.IntN(3)
		b := m.message(at, 4)
		for i := 0; i < len(b); parted++ {
			wantParted(t, m.s, at, b[:i], b[i:], Scripts())
			r, err := modelFirst(b[i:])
			if err != nil {
				t.Fatal(err)
			}
			i += len(r.raw)
		}
		v := m.heldBy(at, 4)
		wantBack(t, m.s, at, v, Scripts())
		for _, x := range v.Fields {
			wantBack(t, m.s, at, one(x.Number, x.Value), Scripts())
		}
		if t.Failed() {
			t.Fatal(seed)
		}
	}
	if parted < 6000 {
		t.Errorf("only %d were parted", parted)
	}
}

// P16.1: nothing that is given is changed, nor the room behind it, and what is answered stays as it is, whatever becomes of the bytes and of other answers.
func TestApart(t *testing.T) {
	s := compiled(t, labels)
	made := func() value.Value {
		inner := make([]value.Value, 2, 9)
		copy(inner, []value.Value{num(1), num(2)})
		pairs := make([]value.Pair, 2, 9)
		copy(pairs, []value.Pair{pair(num(1), str("a")), pair(num(5), str("e"))})
		fields := make([]value.Field, 4, 9)
		copy(fields, []value.Field{field(1, num(1)), field(3, one(21, list(inner...))), field(21, value.Value{Kind: value.List, List: inner}), field(31, value.Value{Kind: value.Map, Pairs: pairs})})
		return message("\x30\x01", fields...)
	}
	v := made()
	b := append(make([]byte, 0, 100), "\x08\x07\xa8\x01\x03\x1a\x03\xa8\x01\x04\x30\x02\x12\x01x"+text(31, "\x08\x01")+text(31, "\x08\x03")...)
	was := bytes.Clone(b[:cap(b)])
	first, err := Into(s, atA, v, b, Values())
	other, otherErr := Into(s, atA, v, []byte("\xa8\x01\x63\x1a\x03\xa8\x01\x62"+text(31, "\x08\x02")), Values())
	if err != nil || otherErr != nil {
		t.Fatal(err, otherErr)
	}
	want := message("\x30\x01\x30\x02", field(1, num(7)), field(2, str("x")), field(3, one(21, numbers(1, 2, 4))), field(21, numbers(1, 2, 3)), field(31, table(pair(num(1), str("")), pair(num(3), str("")), pair(num(5), str("e")))))
	wantOther := message("\x30\x01", field(1, num(1)), field(3, one(21, numbers(1, 2, 98))), field(21, numbers(1, 2, 99)), field(31, table(pair(num(1), str("a")), pair(num(2), str("")), pair(num(5), str("e")))))
	if !bytes.Equal(b[:cap(b)], was) {
		t.Errorf("the bytes were changed: % x", b[:cap(b)])
	}
	for i := range b {
		b[i] = 'q'
	}
	// Answers go on from one another, each on its own.
	for i := range 20 {
		for range 2 {
			if _, err := Into(s, atA, first, []byte("\xa8\x01\x50\x08\x51\x30\x52\x1a\x03\xa8\x01\x53"+text(31, string([]byte{8, byte(i)}))), Values()); err != nil {
				t.Fatal(err)
			}
		}
	}
	if !value.Same(first, want) || !value.Same(other, wantOther) {
		t.Errorf("%v and %v, want %v and %v", first, other, want, wantOther)
	}
	if !reflect.DeepEqual(v, made()) {
		t.Errorf("the value was changed: %v", v)
	}
	wantNoRoom(t, "Fields", v.Fields)
	wantNoRoom(t, "List", v.Fields[2].Value.List)
	wantNoRoom(t, "Pairs", v.Fields[3].Value.Pairs)
	wantNoRoom(t, "List within", v.Fields[1].Value.Fields[0].Value.List)
	if !schema.Same(s, compiled(t, labels)) {
		t.Error("the schema was changed")
	}
}

// wantNoRoom holds the room behind a list, if there is any, against being as it was: zero.
func wantNoRoom[T any](t *testing.T, name string, list []T) {
	t.Helper()
	var zero T
	for _, x := range list[len(list):cap(list)] {
		if !reflect.DeepEqual(x, zero) {
			t.Errorf("the room behind %s was changed: %v", name, x)
		}
	}
}

// P16.1, P16.2: schemas that no text has: lists and maps in oneofs, labels that there aren't.
func TestNoText(t *testing.T) {
	f := func(name, of string, number, label, oneof int) syntax.Field {
		return syntax.Field{Name: name, Type: of, Number: number, Label: label, Oneof: oneof}
	}
	inMap := f("d", "bytes", 4, 4, 1)
	inMap.MapKey = "bool"
	s, err := schema.Compile(syntax.File{Messages: []syntax.Message{{Name: "A", Oneofs: []string{"o"}, Fields: []syntax.Field{
		f("a", "int32", 1, 0, 0), f("b", "string", 2, 7, 1), f("c", "int32", 3, 3, 1), inMap, f("e", "A", 5, 2, 1), f("g", "int32", 6, 1, -3), f("h", "int32", 7, 2, -3),
	}}}})
	if err != nil {
		t.Fatal(err)
	}
	wantHeld := func(b string) {
		t.Helper()
		v, err := Of(s, 0, []byte(b), Values())
		if err != nil || hold.Check(s, 0, v) != nil {
			t.Errorf("% x: %v, %v, %v", b, v, err, hold.Check(s, 0, v))
		}
		wantBack(t, s, 0, v, Values())
	}
	records := []string{"\x08\x00", "\x08\x01", "\x12\x00", "\x12\x01a", "\x18\x00", "\x1a\x00", "\x1a\x01\x01", "\x22\x00", "\x22\x02\x08\x01", "\x2a\x00", "\x2a\x02\x18\x01", "\x30\x00", "\x38\x01", "\x40\x01"}
	for _, a := range records {
		for _, b := range records {
			for _, c := range records {
				wantHeld(a + b + c)
				wantParted(t, s, 0, []byte(a), []byte(b+c), Values())
			}
		}
	}
}

// P16.1: many records of one list, map or message, and long rows, in a time that grows as they do.
func TestLong(t *testing.T) {
	s := compiled(t, labels)
	begun := time.Now()
	most := Scripts().Bytes
	of := func(name, b string, fields int) value.Value {
		v, err := Of(s, atA, []byte(b), Scripts())
		if err != nil || len(v.Fields) != fields {
			t.Errorf("%s: %d fields, %v", name, len(v.Fields), err)
		}
		return v
	}
	v := of("a row", text(30, strings.Repeat("\x01", most-5)), 1)
	if n := len(value.Get(v, 30).List); n != most-5 {
		t.Errorf("a row has %d numbers", n)
	}
	v = of("numbers", strings.Repeat("\xb0\x01\x01", most/3), 1)
	if n := len(value.Get(v, 22).List); n != most/3 {
		t.Errorf("a list has %d numbers", n)
	}
	v = of("messages in a list", strings.Repeat("\xc2\x01\x00", most/3), 1)
	if n := len(value.Get(v, 24).List); n != most/3 {
		t.Errorf("a list has %d messages", n)
	}
	v = of("one message again and again", strings.Repeat(text(4, "\x18\x01"), most/4-100), 1)
	if n := len(value.Get(value.Get(v, 4), 3).List); n != most/4-100 {
		t.Errorf("a message's list has %d numbers", n)
	}
	v = of("a Rest", strings.Repeat("\x30\x01", most/2), 0)
	if len(v.Rest) != most {
		t.Errorf("a Rest has %d bytes", len(v.Rest))
	}
	var entries strings.Builder
	for n := range 18000 {
		entries.WriteString(text(36, string(binary.AppendUvarint([]byte{8}, uint64(n*7919%20011)))))
	}
	v = of("a map", entries.String(), 1)
	if n := len(value.Get(v, 36).Pairs); n != 18000 {
		t.Errorf("a map has %d pairs", n)
	}
	v, err := Into(s, atA, v, []byte(strings.Repeat(text(36, "\x08\xff\xff\x03"), 20000)), Scripts())
	if n := len(value.Get(v, 36).Pairs); err != nil || n != 18001 {
		t.Errorf("a map with one key again and again: %d pairs, %v", n, err)
	}
	deep := nested(64, func(b string) string { return text(3, b) }, text(2, long(most-400)))
	if v = of("deep", deep, 1); value.Depth(v) != 64 {
		t.Errorf("a deep message: %d", value.Depth(v))
	}
	if took := time.Since(begun); took > 20*time.Second {
		t.Errorf("it took %v", took)
	}
}

// P16.1: great values into which few bytes are read, and values that lie deeper than any limit.
func TestGreatValues(t *testing.T) {
	s := compiled(t, labels)
	v := empty()
	for range 1 << 15 {
		v = one(3, v)
	}
	wantZero := func(v value.Value, want error) {
		t.Helper()
		if got, err := Into(s, atA, v, []byte("\x08\x01"), Scripts()); !isError(err, want) || !isZero(got) {
			t.Errorf("%v, want %v", err, want)
		}
	}
	wantZero(v, api.ErrDepth)
	wantZero(one(2, str(long(1<<20))), api.ErrLong)
	if got, err := Into(s, atA, one(2, str(long(1<<20))), []byte("\x12\x00"), Scripts()); err != nil || !value.Same(got, empty()) {
		t.Errorf("a long text that goes: %v", err)
	}
	great := list()
	for i := range 1 << 18 {
		great.List = append(great.List, num(int64(i)))
	}
	wantZero(one(21, great), api.ErrLong)
}
