package code

import (
	"math"
	"math/rand/v2"
	"slices"
	"testing"

	"redline/hold"
	"redline/kinds"
	"redline/schema"
	"redline/value"
)

// rich has in A a repeated field of each kind, packed ones and ones that aren't, and of messages with keys of both sorts and without.
const rich = head + `
message A {
  repeated double a = 1; repeated float b = 2; repeated int32 c = 3; repeated int64 d = 4; repeated uint32 e = 5; repeated uint64 f = 6; repeated sint32 g = 7; repeated sint64 h = 8;
  repeated fixed32 i = 9; repeated fixed64 j = 10; repeated sfixed32 k = 11; repeated sfixed64 l = 12; repeated bool m = 13; repeated string n = 14; repeated bytes o = 15; repeated E p = 16;
  repeated int32 cu = 23 [packed = false]; repeated sint64 hu = 28 [packed = false]; repeated fixed32 iu = 29 [packed = false]; repeated E pu = 536870911 [packed = false];
  repeated B q = 40; repeated B qs = 41 [key = s]; repeated B qn = 42 [key = n]; repeated C r = 43; repeated C re = 44 [key = e]; repeated A w = 45;
}
message B {
  string s = 16; sint32 n = 1; bytes t = 2; B w = 3; optional int32 o = 4; repeated int32 p = 5; repeated sint64 u = 6 [packed = false]; map<string, B> m = 7; map<bool, bytes> mt = 8;
  oneof x { int32 y = 9; bytes yt = 10; C z = 11; } repeated string ps = 12; repeated C pc = 13 [key = e];
}
message C { E e = 2047; bool b = 1; }
enum E { Z = 0; }`

// maker makes elements by chance, of few choices, so that some are the same.
type maker struct {
	*rand.Rand
	s schema.Schema
}

func newMaker(t *testing.T, seed uint64) *maker {
	t.Helper()
	return &maker{rand.New(rand.NewPCG(18, seed)), compiled(t, rich)}
}

func pick[T any](m *maker, of ...T) T { return of[m.IntN(len(of))] }

// edges are numbers that some kinds have.
func edges() []uint64 {
	return []uint64{0, 1, 2, 63, 64, 127, 128, 300, 1<<31 - 1, 1 << 31, 1<<32 - 1, 1 << 32, 1<<63 - 1, 1 << 63, 1<<64 - 1<<31, 1<<64 - 2, math.MaxUint64}
}

// numbersOf are those edges that a kind has.
func numbersOf(kind int) []uint64 {
	return slices.DeleteFunc(edges(), func(n uint64) bool { return !kinds.Right(kind, n) })
}

// part is one that fits a kind.
func (m *maker) part(kind, of, depth int) value.Value {
	switch kind {
	case kinds.Message:
		return m.message(of, depth-1)
	case kinds.Bytes:
		return value.Str(pick(m, "", "a", "\xff", "\xfe", "\x08\x01"))
	case kinds.String:
		return value.Str(pick(m, "", "a", "ä", "\x08\x01"))
	}
	few := numbersOf(kind)
	return value.Num(pick(m, few[0], few[1], few[len(few)-1]))
}

// field is what a field may have: None, if it is a plain one's number 0, or empty text.
func (m *maker) field(f schema.Field, depth int) value.Value {
	var v value.Value
	switch f.Label {
	case 3:
		v.Kind = value.List
		for range 1 + m.IntN(2) {
			v.List = append(v.List, m.part(f.Kind, f.Type, depth))
		}
	case 4:
		for range 1 + m.IntN(2) {
			v = value.Put(v, m.part(f.MapKey, 0, depth), m.part(f.Kind, f.Type, depth))
		}
	default:
		v = m.part(f.Kind, f.Type, depth)
		if hold.Plain(f) && v.Kind != value.Message && v.Number == 0 && v.Text == "" {
			return value.Value{}
		}
	}
	return v
}

// message is a value that a message holds, of a field or two: deep ones have no fields that are messages.
func (m *maker) message(message, depth int) value.Value {
	v := value.Value{Kind: value.Message, Rest: pick(m, "", "", "", "\xa0\x06\x01", "\xa0\x06\x81\x00", "\x0d\x00\x00\x00\x00")}
	oneofs := map[int]bool{}
	fields := m.s.Messages[message].Fields
	for range m.IntN(3) {
		f := pick(m, fields...)
		if f.Kind == kinds.Message && depth <= 0 || oneofs[f.Oneof] {
			continue
		}
		v = value.With(v, f.Number, m.field(f, depth))
		oneofs[f.Oneof] = f.Oneof != 0
	}
	if message == 0 {
		v.Rest = "" // 0d is known there
	}
	return v
}

// wrong are values that fit few fields, or none.
func wrong() []value.Value {
	return []value.Value{
		{}, {Kind: 6}, {Kind: -1}, value.Num(0), value.Num(1), value.Num(2), value.Num(1 << 40), value.Str(""), value.Str("a"), value.Str("\xff"),
		{Kind: value.List}, list(value.Num(1)), list(message("")), {Kind: value.Map}, value.Put(value.Value{}, value.Num(1), value.Num(1)),
		message("\x80"), message("\x08\x01"), message("\x82\x01\x00"), message("\x0b"), one(99, value.Num(1)), one(1, value.Num(0)), one(1, value.Num(1<<31)), one(16, value.Str("")), one(16, value.Str("\xff")), one(16, value.Num(1)),
		one(9, value.Num(1), value.Field{Number: 10, Value: value.Str("a")}), one(16, value.Str("a"), value.Field{Number: 1, Value: value.Num(1)}), {Kind: value.Message, Number: 1}, one(5, list()),
	}
}

func list(values ...value.Value) value.Value { return value.Value{Kind: value.List, List: values} }

func message(rest string, fields ...value.Field) value.Value {
	return value.Value{Kind: value.Message, Fields: fields, Rest: rest}
}

// one is a message of one field, and of others behind it.
func one(number int, v value.Value, more ...value.Field) value.Value {
	return message("", append([]value.Field{{Number: number, Value: v}}, more...)...)
}
