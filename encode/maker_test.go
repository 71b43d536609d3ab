package encode

import (
	"errors"
	"fmt"
	"math"
	"math/rand/v2"
	"slices"
	"strings"
	"testing"

	"redline/hold"
	"redline/kinds"
	"redline/record"
	"redline/schema"
	"redline/value"
)

const head = "syntax = 'proto3'; "

func compiled(t *testing.T, text string) schema.Schema {
	t.Helper()
	s, err := schema.Of(text)
	if err != nil {
		t.Fatalf("%s: %v, %v", text, err, errors.Unwrap(err))
	}
	return s
}

var (
	numberNames = []string{"double", "float", "int32", "int64", "uint32", "uint64", "sint32", "sint64", "fixed32", "fixed64", "sfixed32", "sfixed64", "bool", "E"}
	keyNames    = append(slices.Clone(numberNames[2:13]), "string")
	typeNames   = append(slices.Clone(numberNames), "string", "bytes", "A", "B", "C")
)

// maker makes schemas by chance, and values that their messages hold.
type maker struct {
	*rand.Rand
	s schema.Schema
}

func pick[T any](m *maker, of ...T) T { return of[m.IntN(len(of))] }

// fieldText is a field's text, of any label.
func (m *maker) fieldText(number int) string {
	name := pick(m, typeNames...)
	end := fmt.Sprintf(" f%d = %d", number, number)
	switch m.IntN(6) {
	case 0:
		return name + end + "; "
	case 1:
		return "optional " + name + end + "; "
	case 2:
		return "repeated " + name + end + "; "
	case 3:
		return "repeated " + pick(m, numberNames...) + end + pick(m, " [packed = true]; ", " [packed = false]; ")
	case 4:
		return "map<" + pick(m, keyNames...) + ", " + name + ">" + end + "; "
	}
	return fmt.Sprintf("oneof o%d { %s%s; %s g%d = %d; } ", number, name, end, pick(m, typeNames...), number, number+1)
}

func newMaker(t *testing.T, seed uint64) *maker {
	t.Helper()
	m := &maker{Rand: rand.New(rand.NewPCG(15, seed))}
	text := head + "enum E { Z = 0; } "
	for _, name := range []string{"A", "B", "C"} {
		text += "message " + name + " { "
		for _, number := range m.Perm(9)[:m.IntN(9)] {
			text += m.fieldText([]int{1, 3, 5, 15, 17, 2047, 16384, 1<<28 - 1, 1<<29 - 2}[number])
		}
		text += "} "
	}
	m.s = compiled(t, text)
	return m
}

// edges are numbers that some kinds have.
func edges() []uint64 {
	return []uint64{0, 1, 2, 63, 64, 127, 128, 300, 1<<31 - 1, 1 << 31, 1<<32 - 1, 1 << 32, 1<<56 - 1, 1<<63 - 1, 1 << 63, 1<<64 - 1<<31, 1<<64 - 2, math.MaxUint64}
}

// numbersOf are those edges that a kind has.
func numbersOf(kind int) []uint64 {
	return slices.DeleteFunc(edges(), func(n uint64) bool { return !kinds.Right(kind, n) })
}

// part is one that fits a kind.
func (m *maker) part(kind, of, depth int) value.Value {
	switch {
	case kind == 17:
		return m.message(of, depth-1)
	case kind == 15:
		return value.Str(pick(m, "", "a", "\xff", "\x08\x01", strings.Repeat("\x00", 127), strings.Repeat("b", 128)))
	case kind == 14:
		return value.Str(pick(m, "", "a", "ä", "\x08\x01", strings.Repeat("\U0010ffff", 32)))
	}
	return value.Num(pick(m, numbersOf(kind)...))
}

// field is what a field may have: None, if it is a plain one's number 0, or empty text.
func (m *maker) field(f schema.Field, depth int) value.Value {
	var v value.Value
	switch f.Label {
	case 3:
		v.Kind = value.List
		for range 1 + m.IntN(4) {
			v.List = append(v.List, m.part(f.Kind, f.Type, depth))
		}
	case 4:
		for range 1 + m.IntN(4) {
			v = value.Put(v, m.part(f.MapKey, 0, depth), m.part(f.Kind, f.Type, depth))
		}
	default:
		v = m.part(f.Kind, f.Type, depth)
		if hold.Plain(f) && v.Kind != value.Message && v.Number == 0 && v.Text == "" {
			return value.Value{}
		}
	}
	return v
}

// message is a value that a message holds: deep ones have no fields that are messages.
func (m *maker) message(message, depth int) value.Value {
	v := value.Value{Kind: value.Message, Rest: m.rest(message)}
	oneofs := map[int]bool{}
	for _, f := range m.s.Messages[message].Fields {
		if m.IntN(3) == 0 || f.Kind == 17 && depth <= 0 || oneofs[f.Oneof] {
			continue
		}
		v = value.With(v, f.Number, m.field(f, depth))
		oneofs[f.Oneof] = f.Oneof != 0
	}
	return v
}

// rest is records that aren't known.
func (m *maker) rest(message int) string {
	rest := ""
	for range m.IntN(3) {
		b := pick(m, "\x08\x01", "\x08\x81\x00", "\x0a\x00", "\x0d\x01\x02\x03\x04", "\x19\x01\x02\x03\x04\x05\x06\x07\x08", "\x72\x02\x08\x01", "\xf8\xff\xff\xff\x0f\x00", "\xa0\x06\xff\x01")
		r, _, err := record.Parse([]byte(b))
		if err == nil && !hold.Known(m.s, message, r.Tag) {
			rest += b
		}
	}
	return rest
}

// spoiled is a value that isn't held, or only nearly isn't: some part of it is another one.
func (m *maker) spoiled(v value.Value) value.Value {
	if len(v.Fields) == 0 || m.IntN(6) == 0 {
		return m.foreign(v)
	}
	v.Fields = slices.Clone(v.Fields)
	at := &v.Fields[m.IntN(len(v.Fields))]
	switch {
	case m.IntN(6) == 0:
		at.Number = pick(m, -1, 0, 1, 2, 1<<29)
	case len(at.Value.List) > 0:
		at.Value.List = slices.Clone(at.Value.List)
		x := &at.Value.List[m.IntN(len(at.Value.List))]
		*x = m.spoiled(*x)
	case len(at.Value.Pairs) > 0:
		at.Value.Pairs = slices.Clone(at.Value.Pairs)
		x := &at.Value.Pairs[m.IntN(len(at.Value.Pairs))]
		*pick(m, &x.Key, &x.Value) = m.spoiled(x.Value)
	default:
		at.Value = m.spoiled(at.Value)
	}
	return v
}

// foreign is another value than the one that is given.
func (m *maker) foreign(v value.Value) value.Value {
	if v.Kind == value.Message && m.IntN(2) == 0 {
		v.Rest += pick(m, "\x08", "\x08\x01", "\x0b", "\x0a\x00", "\x00", "\x0e", "\x12\x00", "\x1a\x01a", "\xff\xff\xff\xff\xff\xff\xff\xff\xff\xff\x01")
		return v
	}
	return pick(m, value.Value{}, value.Num(0), value.Num(1<<40), value.Num(math.MaxUint64), value.Str(""), value.Str("\xff"), value.Value{Kind: value.Message}, value.Value{Kind: value.List}, value.Value{Kind: value.List, List: []value.Value{value.Num(1)}}, value.Value{Kind: 6})
}

// near is values that are like one, but in one place of it: without a field, or the Rest; with another part.
func (m *maker) near(message int, v value.Value) []value.Value {
	bare := v
	bare.Rest = ""
	all := []value.Value{v, bare, m.message(message, 2)}
	for _, x := range v.Fields {
		f, _ := m.s.Field(message, x.Number)
		all = append(all, value.With(v, x.Number, value.Value{}))
		all = append(all, value.With(v, x.Number, m.field(f, 1)), value.With(v, x.Number, m.field(f, 1)))
		if x.Value.Kind == value.Message {
			for _, inner := range m.near(f.Type, x.Value) {
				all = append(all, value.With(v, x.Number, inner))
			}
		}
		if n := len(x.Value.List); n > 1 {
			all = append(all, value.With(v, x.Number, value.Value{Kind: value.List, List: x.Value.List[1:]}), value.With(v, x.Number, value.Value{Kind: value.List, List: x.Value.List[:n-1]}))
		}
		if n := len(x.Value.Pairs); n > 1 {
			all = append(all, value.With(v, x.Number, value.Value{Kind: value.Map, Pairs: x.Value.Pairs[1:]}), value.With(v, x.Number, value.Value{Kind: value.Map, Pairs: x.Value.Pairs[:n-1]}))
		}
	}
	return all
}
