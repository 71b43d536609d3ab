package align

import (
	"math/rand/v2"
	"slices"
	"testing"

	"redline/kinds"
	"redline/schema"
	"redline/value"
)

// rich has in A repeated fields of all sorts of kinds, packed ones and ones that aren't, and of messages with keys of all sorts and without.
const rich = `syntax = 'proto3';
message A {
  repeated int32 n = 1; repeated string t = 2; repeated bytes o = 3; repeated sint64 u = 4 [packed = false]; repeated E e = 5; repeated bool p = 6; repeated double d = 7; repeated fixed32 x = 8;
  repeated B q = 10; repeated B qs = 11 [key = s]; repeated B qn = 12 [key = n]; repeated A w = 13; repeated C c = 14 [key = e]; repeated C cb = 15 [key = b]; repeated C cx = 16 [key = x];
}
message B {
  string s = 16; sint32 n = 1; bytes t = 2; repeated B w = 3 [key = n]; oneof x { int32 y = 4; string z = 5; } map<string, B> m = 6; optional int32 p = 7; B one = 8;
}
message C { E e = 2047; bool b = 1; fixed64 x = 3; int32 more = 4; }
enum E { Z = 0; Y = 1; }`

func num(n uint64) value.Value { return value.Num(n) }

func str(s string) value.Value { return value.Str(s) }

func list(values ...value.Value) value.Value { return value.Value{Kind: value.List, List: values} }

func message(rest string, fields ...value.Field) value.Value {
	return value.Value{Kind: value.Message, Fields: fields, Rest: rest}
}

// one is a message of one field, and of others behind it.
func one(number int, v value.Value, more ...value.Field) value.Value {
	return message("", append([]value.Field{{Number: number, Value: v}}, more...)...)
}

// element is a B with the key, as its s and its n both, and something else, if it isn't empty; what a plain field doesn't hold isn't there.
func element(key int, more string) value.Value {
	v := message("")
	if key != 0 {
		v = value.With(value.With(v, 1, num(uint64(key))), 16, str(string(rune('0'+key))))
	}
	if more != "" {
		v = value.With(v, 2, str(more))
	}
	return v
}

// elements are those of the keys, with nothing else.
func elements(keys ...int) []value.Value {
	var all []value.Value
	for _, key := range keys {
		all = append(all, element(key, ""))
	}
	return all
}

// row is the numbers from one to another one, without that.
func row(from, to int) []int {
	var numbers []int
	for n := from; n < to; n++ {
		numbers = append(numbers, n)
	}
	return numbers
}

// shortRows are all rows of what is given up to a length.
func shortRows[T any](of []T, length int) [][]T {
	all := [][]T{nil}
	last := all
	for range length {
		var next [][]T
		for _, row := range last {
			for _, x := range of {
				next = append(next, append(slices.Clone(row), x))
			}
		}
		all = append(all, next...)
		last = next
	}
	return all
}

// maker makes lists by chance.
type maker struct {
	*rand.Rand
	s schema.Schema
}

func newMaker(t *testing.T, seed uint64) *maker {
	t.Helper()
	return &maker{rand.New(rand.NewPCG(20, seed)), compiled(t, rich)}
}

func pick[T any](m *maker, of ...T) T { return of[m.IntN(len(of))] }

// number is one that a kind has, of so many ones at most.
func (m *maker) number(kind, of int) value.Value {
	if kind == kinds.Bool {
		of = min(of, 2)
	}
	return num(uint64(m.IntN(of)))
}

// part is one that fits a kind, of so many ones, if it is a number or a text.
func (m *maker) part(kind, of, message, depth int) value.Value {
	switch kind {
	case kinds.Message:
		return m.message(message, of, depth-1)
	case kinds.Bytes:
		return str("\xff" + string(rune('a'+m.IntN(of))))
	case kinds.String:
		return str(string(rune('a' + m.IntN(of))))
	}
	return m.number(kind, of)
}

// message is a value that B, C or A holds: of some of its fields, that are no messages, if it is deep.
func (m *maker) message(message, of, depth int) value.Value {
	v := value.Value{Kind: value.Message, Rest: pick(m, "", "", "", "", "\xa0\x1f\x01")}
	oneofs := map[int]bool{}
	for _, f := range m.s.Messages[message].Fields {
		if m.IntN(3) == 0 || f.Kind == kinds.Message && (depth <= 0 || m.IntN(3) > 0) || oneofs[f.Oneof] {
			continue
		}
		oneofs[f.Oneof] = f.Oneof != 0
		x := m.part(f.Kind, of, f.Type, depth)
		switch {
		case f.Label == 3:
			x = list(x)
		case f.Label == 4:
			x = value.Put(value.Value{}, m.part(f.MapKey, of, 0, 0), x)
		case f.Label == 1 && f.Oneof == 0 && x.Kind == value.Number && x.Number == 0:
			continue
		}
		v = value.With(v, f.Number, x)
	}
	return v
}

// changed is a list of which some elements are dropped, put, changed or stand elsewhere.
func (m *maker) changed(list []value.Value, edits int, made func() value.Value) []value.Value {
	list = slices.Clone(list)
	for range edits {
		at := m.IntN(len(list) + 1)
		if at == len(list) {
			list = append(list, made())
			continue
		}
		switch m.IntN(4) {
		case 0:
			list = slices.Insert(list, at, made())
		case 1:
			list = slices.Delete(list, at, at+1)
		case 2:
			list[at] = m.other(list[at])
		case 3:
			list = slices.Insert(slices.Delete(slices.Clone(list), at, at+1), m.IntN(len(list)), list[at])
		}
	}
	return list
}

// other is a message that is changed in one place, not in its key; or the value itself.
func (m *maker) other(v value.Value) value.Value {
	if v.Kind == value.Message {
		v.Rest += "\xa8\x1f" + pick(m, "\x01", "\x02")
	}
	return v
}

// unlike is a list without such elements as have a key that one ahead has.
func unlike(s schema.Schema, f schema.Field, list []value.Value) []value.Value {
	var left []value.Value
	for _, v := range list {
		if !slices.ContainsFunc(left, func(x value.Value) bool { return value.Same(keyOf(s, f, x), keyOf(s, f, v)) }) {
			left = append(left, v)
		}
	}
	return left
}

// wrong are values that fit few fields, or none.
func wrong() []value.Value {
	return []value.Value{
		{}, {Kind: 6}, {Kind: -1}, num(0), num(1), num(1 << 40), str(""), str("a"), str("\xff"), {Kind: value.List}, list(num(1)), list(message("")), {Kind: value.Map}, value.Put(value.Value{}, num(1), num(1)),
		message("\x80"), message("\x08\x01"), message("\x0b"), one(99, num(1)), one(1, num(0)), one(1, num(1<<31)), one(16, str("")), one(16, str("\xff")), one(16, num(1)),
		one(4, num(1), value.Field{Number: 5, Value: str("a")}), one(16, str("a"), value.Field{Number: 1, Value: num(1)}), {Kind: value.Message, Number: 1}, one(3, list()),
	}
}
