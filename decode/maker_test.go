package decode

import (
	"encoding/binary"
	"errors"
	"fmt"
	"math"
	"math/rand/v2"
	"slices"
	"strings"
	"testing"

	"redline/schema"
	"redline/value"
)

const head = "syntax = 'proto3'; "

func compiled(t *testing.T, text string) schema.Schema {
	t.Helper()
	s, err := schema.Of(text)
	if err != nil {
		t.Fatalf("%s: %v, %v", text, err, errors.Unwrap(err))
	}
	return s
}

func empty() value.Value { return value.Value{Kind: value.Message} }

func message(rest string, fields ...value.Field) value.Value {
	return value.Value{Kind: value.Message, Fields: fields, Rest: rest}
}

func field(number int, v value.Value) value.Field { return value.Field{Number: number, Value: v} }

// one is a message of one field.
func one(number int, v value.Value) value.Value { return message("", field(number, v)) }

// both is a message of two fields.
func both(a int, x value.Value, b int, y value.Value) value.Value {
	return message("", field(a, x), field(b, y))
}

func list(values ...value.Value) value.Value { return value.Value{Kind: value.List, List: values} }

func numbers(all ...int64) value.Value {
	v := list()
	for _, n := range all {
		v.List = append(v.List, num(n))
	}
	return v
}

func pair(key, v value.Value) value.Pair { return value.Pair{Key: key, Value: v} }

func table(pairs ...value.Pair) value.Value { return value.Value{Kind: value.Map, Pairs: pairs} }

func num(n int64) value.Value { return value.Num(uint64(n)) }

func str(s string) value.Value { return value.Str(s) }

// text is a record of Bytes, of a number and a Text.
func text(number int, text string) string {
	b := binary.AppendUvarint(nil, uint64(number)<<3|2)
	return string(binary.AppendUvarint(b, uint64(len(text)))) + text
}

var (
	numberNames = []string{"double", "float", "int32", "int64", "uint32", "uint64", "sint32", "sint64", "fixed32", "fixed64", "sfixed32", "sfixed64", "bool", "E"}
	keyNames    = append(slices.Clone(numberNames[2:13]), "string")
	typeNames   = append(slices.Clone(numberNames), "string", "bytes", "A", "B", "C", "A")
)

// maker makes schemas by chance, and bytes that their messages may have, or nearly have.
type maker struct {
	*rand.Rand
	s schema.Schema
}

func pick[T any](m *maker, of ...T) T { return of[m.IntN(len(of))] }

// fieldText is a field's text, of any label; of a oneof those of up to three fields.
func (m *maker) fieldText(number int) string {
	name := pick(m, typeNames...)
	end := fmt.Sprintf(" f%d = %d", number, number)
	switch m.IntN(6) {
	case 0:
		return name + end + "; "
	case 1:
		return "optional " + name + end + "; "
	case 2:
		return "repeated " + name + end + "; "
	case 3:
		return "repeated " + pick(m, numberNames...) + end + pick(m, " [packed = true]; ", " [packed = false]; ")
	case 4:
		return "map<" + pick(m, keyNames...) + ", " + name + ">" + end + "; "
	}
	of := fmt.Sprintf("oneof o%d { %s%s; ", number, name, end)
	for i := range m.IntN(3) {
		of += fmt.Sprintf("%s g%d_%d = %d; ", pick(m, typeNames...), number, i, number+1+i)
	}
	return of + "} "
}

func newMaker(t *testing.T, seed uint64) *maker {
	t.Helper()
	m := &maker{Rand: rand.New(rand.NewPCG(16, seed))}
	text := head + "enum E { Z = 0; } "
	for _, name := range []string{"A", "B", "C"} {
		text += "message " + name + " { "
		for _, at := range m.Perm(6)[:m.IntN(7)] {
			text += m.fieldText([]int{1, 4, 7, 15, 2047, 1<<29 - 3}[at])
		}
		text += "} "
	}
	m.s = compiled(t, text)
	return m
}

// varint is a number's varint, now and then not the shortest one.
func (m *maker) varint(n uint64) []byte {
	b := binary.AppendUvarint(nil, n)
	if len(b) < 9 && m.IntN(8) == 0 {
		b[len(b)-1] |= 128
		b = append(b, 128, 0)
	}
	return b
}

// bits are edges of what records of numbers may say.
func (m *maker) bits() uint64 {
	return pick[uint64](m, 0, 0, 0, 1, 2, 3, 127, 128, 300, 1<<31-1, 1<<31, 1<<32-1, 1<<32, 1<<32+1, 1<<63-1, 1<<63, 1<<64-1<<31, math.MaxUint64-1, math.MaxUint64, m.Uint64())
}

// number is the bytes of a number of a wire kind, without a tag.
func (m *maker) number(wire int) []byte {
	switch wire {
	case 1:
		return binary.LittleEndian.AppendUint64(nil, m.bits())
	case 5:
		return binary.LittleEndian.AppendUint32(nil, uint32(m.bits()))
	}
	return m.varint(m.bits())
}

// record is bytes of a record, of which the Text is given.
func (m *maker) record(number, wire int, text []byte) []byte {
	b := m.varint(uint64(number)<<3 | uint64(wire))
	if wire == 2 {
		return slices.Concat(b, m.varint(uint64(len(text))), text)
	}
	return append(b, m.number(wire)...)
}

// partText is a Text of a part of a kind.
func (m *maker) partText(kind, of, depth int) []byte {
	switch {
	case kind == 17 && depth <= 0:
		return nil
	case kind == 17:
		return m.message(of, depth-1)
	case kind == 14 && m.IntN(40) > 0:
		return []byte(pick(m, "", "", "a", "b", "ä", "\x08\x01"))
	}
	return []byte(pick(m, "", "", "a", "b", "ä", "\xff", "\x08\x01", "\xc3"))
}

// part is a record of a part of a kind.
func (m *maker) part(number, kind, of, depth int) []byte {
	return m.record(number, modelWire(kind), m.partText(kind, of, depth))
}

// row is packed numbers of a kind: now and then they don't come out even.
func (m *maker) row(kind int) []byte {
	var b []byte
	for range m.IntN(4) {
		b = append(b, m.number(modelWire(kind))...)
	}
	if m.IntN(40) == 0 {
		b = append(b, 128)
	}
	return b
}

// entry is a map's Text: key and value, or one of them alone, or more, in any order, and others.
func (m *maker) entry(f schema.Field, depth int) []byte {
	var b []byte
	for range pick(m, 0, 1, 2, 2, 2, 3, 4) {
		switch m.IntN(8) {
		case 0, 1, 2:
			b = append(b, m.part(1, f.MapKey, 0, depth)...)
		case 3, 4, 5:
			b = append(b, m.part(2, f.Kind, f.Type, depth)...)
		case 6:
			b = append(b, m.record(m.IntN(3)+1, pick(m, 0, 1, 2, 5), []byte("\x08\x01"))...)
		case 7:
			b = append(b, m.record(pick(m, 3, 9, 536870911), pick(m, 0, 1, 2, 5), []byte("a"))...)
		}
	}
	return b
}

// ofField is a record by which a field is known.
func (m *maker) ofField(f schema.Field, depth int) []byte {
	switch {
	case f.Label == 4:
		return m.record(f.Number, 2, m.entry(f, depth))
	case f.Label == 3 && modelIsNumber(f.Kind) && m.IntN(2) == 0:
		return m.record(f.Number, 2, m.row(f.Kind))
	}
	return m.part(f.Number, f.Kind, f.Type, depth)
}

// message is bytes of a message, record by record: most are known.
func (m *maker) message(message, depth int) []byte {
	var b []byte
	fields := m.s.Messages[message].Fields
	for range m.IntN(7) {
		if len(fields) == 0 || m.IntN(6) == 0 {
			b = append(b, m.record(pick(m, 1, 2, 4, 7, 15, 16, 2047, 536870911), pick(m, 0, 1, 2, 5), []byte(pick(m, "", "a", "\x08\x01")))...)
			continue
		}
		b = append(b, m.ofField(pick(m, fields...), depth)...)
	}
	return b
}

// spoiled is bytes that are changed in one place: cut, or with another byte there, or one more.
func (m *maker) spoiled(b []byte) []byte {
	at := m.IntN(len(b) + 1)
	x := pick[byte](m, 0, 1, 2, 3, 8, 10, 11, 12, 14, 18, 127, 128, 255, byte(m.IntN(256)))
	switch {
	case at == len(b):
		return append(slices.Clone(b), slices.Repeat([]byte{x}, 1+m.IntN(11))...)
	case m.IntN(3) == 0:
		return slices.Clone(b[:at])
	case m.IntN(2) == 0:
		return slices.Insert(slices.Clone(b), at, x)
	}
	b = slices.Clone(b)
	b[at] = x
	return b
}

// limits are wide ones, or such as lie near to what is asked.
func (m *maker) limits(b []byte) Limits {
	switch m.IntN(4) {
	case 0:
		return Limits{Depth: 1 + m.IntN(5), Bytes: len(b) + m.IntN(6)}
	case 1:
		return Limits{Depth: pick(m, 1, 2, 3, 8, 64), Bytes: max(0, len(b)-1+m.IntN(3))}
	}
	return pick(m, Values(), Scripts())
}

// heldBy is a value that was decoded of bytes by chance, or the empty one.
func (m *maker) heldBy(message, depth int) value.Value {
	v, err := Of(m.s, message, m.message(message, depth), Scripts())
	if err != nil {
		return empty()
	}
	return v
}

// long is a text of so many bytes.
func long(n int) string { return strings.Repeat("a", n) }
