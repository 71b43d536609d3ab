package hold

import (
	"errors"
	"fmt"
	"math"
	"math/rand/v2"
	"slices"
	"strings"
	"testing"

	"redline/record"
	"redline/schema"
	"redline/tag"
	"redline/value"
)

// maker makes schemas by chance, and values that their messages hold, or nearly hold.
type maker struct {
	*rand.Rand
	s schema.Schema
	// wrong is how many of so many things are made wrong: none, if it is 0.
	wrong int
}

func pick[T any](m *maker, of ...T) T { return of[m.IntN(len(of))] }

// spoils tells whether the next thing is to be wrong.
func (m *maker) spoils() bool { return m.wrong > 0 && m.IntN(m.wrong) == 0 }

var (
	keyNames     = []string{"int32", "int64", "uint32", "uint64", "sint32", "sint64", "fixed32", "fixed64", "sfixed32", "sfixed64", "bool", "string"}
	kindNames    = slices.Concat([]string{"double", "float", "bytes", "E"}, keyNames)
	fieldNumbers = []int{1, 2, 3, 4, 5, 9, 15, 16, 100, 2047, 18999, 20000, 536870911}
)

func (m *maker) typeName() string {
	if m.IntN(3) == 0 {
		return pick(m, "A", "B", "C")
	}
	return pick(m, kindNames...)
}

// fieldText is a field's text, but for what stands ahead of its type, and within a oneof no label.
func (m *maker) fieldText(number int, free bool) string {
	text, behind := m.typeName(), ""
	switch m.IntN(5) {
	case 0, 1:
		if free {
			break
		}
		if slices.Contains(kindNames, text) && text != "string" && text != "bytes" {
			behind = pick(m, "", " [packed = true]", " [packed = false]")
		}
		text = "repeated " + text
	case 2:
		if !free {
			text = "optional " + text
		}
	case 3:
		if !free {
			text = "map<" + pick(m, keyNames...) + ", " + text + ">"
		}
	}
	return fmt.Sprintf("%s f%d = %d%s; ", text, number, number, behind)
}

func (m *maker) messageText(name string) string {
	var text strings.Builder
	text.WriteString("message " + name + " { ")
	numbers := m.Perm(len(fieldNumbers))[:m.IntN(9)]
	for i := 0; i < len(numbers); i++ {
		if m.IntN(3) > 0 {
			text.WriteString(m.fieldText(fieldNumbers[numbers[i]], false))
			continue
		}
		fmt.Fprintf(&text, "oneof o%d { ", i)
		for ; i < len(numbers); i++ {
			text.WriteString(m.fieldText(fieldNumbers[numbers[i]], true))
			if m.IntN(3) == 0 {
				break
			}
		}
		text.WriteString("} ")
	}
	return text.String() + "} "
}

// newMaker has a schema of three messages and an enum.
func newMaker(t *testing.T, seed uint64) *maker {
	t.Helper()
	m := &maker{Rand: rand.New(rand.NewPCG(14, seed))}
	text := head + m.messageText("A") + m.messageText("B") + m.messageText("C") + "enum E { Z = 0; }"
	s, err := schema.Of(text)
	if err != nil {
		t.Fatalf("%s: %v, %v", text, err, errors.Unwrap(err))
	}
	m.s = s
	return m
}

// number is one of a kind, at its edges and within.
func (m *maker) number(kind int) uint64 {
	all := []uint64{0, 1, 2, 300, 1<<31 - 1, 1 << 31, 1<<32 - 1, 1 << 32, 1<<63 - 1, 1 << 63, 1<<64 - 1<<31, 1<<64 - 1<<31 - 1, math.MaxUint64}
	for !m.spoils() {
		if n := pick(m, all...); modelNumber(kind, n) {
			return n
		}
	}
	return pick(m, all...)
}

func (m *maker) text(kind int) string {
	if kind == modelBytes || m.spoils() || m.spoils() {
		return pick(m, "\xff", "a\xc3", "", "\xed\xa0\x80", "\x00ä\xe4")
	}
	return pick(m, "", "a", "ä", "\x00", "ab", "z\U0010ffff")
}

// part is one that fits a kind.
func (m *maker) part(kind, of, depth int) value.Value {
	if m.spoils() {
		kind = 1 + m.IntN(17)
	}
	switch {
	case kind == modelMessage:
		return m.message(of, depth-1)
	case modelIsNumber(kind):
		return value.Num(m.number(kind))
	}
	return value.Str(m.text(kind))
}

func (m *maker) list(f schema.Field, depth int) value.Value {
	v := value.Value{Kind: value.List}
	for range 1 + m.IntN(3) {
		v.List = append(v.List, m.part(f.Kind, f.Type, depth))
	}
	return v
}

func (m *maker) table(f schema.Field, depth int) value.Value {
	var v value.Value
	for range 1 + m.IntN(3) {
		key := m.part(f.MapKey, 0, depth)
		if key.Kind == value.Message || len(v.Pairs) > 0 && v.Pairs[0].Key.Kind != key.Kind {
			continue
		}
		v = value.Put(v, key, m.part(f.Kind, f.Type, depth))
	}
	return v
}

// field is what a field of a message may have; None, if it is a plain one's number 0, or empty text.
func (m *maker) field(f schema.Field, depth int) value.Value {
	label := f.Label
	if m.spoils() {
		label = 1 + m.IntN(4)
	}
	switch label {
	case 3:
		return m.list(f, depth)
	case 4:
		return m.table(f, depth)
	}
	v := m.part(f.Kind, f.Type, depth)
	if modelPlain(f) && nought(v) && !m.spoils() {
		return value.Value{}
	}
	return v
}

// rest is records that aren't known.
func (m *maker) rest(message int) string {
	var rest []byte
	for range m.IntN(3) {
		r := record.Record{Tag: tag.Tag{Number: pick(m, 1, 2, 3, 4, 15, 77), Wire: pick(m, 0, 1, 2, 5)}}
		if r.Tag.Wire == tag.Bytes {
			r.Text = pick(m, "", "a", "\xff\xff")
		}
		b, err := record.Put(r)
		if err == nil && (!modelKnown(m.s, message, r.Tag) || m.spoils()) {
			rest = append(rest, b...)
		}
	}
	if m.spoils() {
		rest = append(rest, pick(m, "\x08", "\x0b", "\x00", "\x12\x05a", "\xff\xff\xff\xff\xff\xff\xff\xff\xff\xff\x01", "\x0e")...)
	}
	return string(rest)
}

// message is a value that a message holds, if nothing is to be wrong: deep ones have no fields that are messages.
func (m *maker) message(message, depth int) value.Value {
	v := value.Value{Kind: value.Message, Rest: m.rest(message)}
	oneofs := map[int]bool{}
	for _, f := range m.s.Messages[message].Fields {
		taken := oneofs[f.Oneof] && !m.spoils()
		if m.IntN(3) == 0 || f.Kind == modelMessage && depth <= 0 || taken {
			continue
		}
		x := m.field(f, depth)
		v = value.With(v, f.Number, x)
		if x.Kind != value.None {
			oneofs[f.Oneof] = f.Oneof > 0
		}
	}
	if m.spoils() && m.IntN(3) == 0 {
		v = value.With(v, 1<<20, value.Num(1))
	}
	return v
}

// twist makes a value one that isn't right, somewhere.
func (m *maker) twist(v value.Value) value.Value {
	bad := pick(m, value.Value{Kind: value.List}, value.Value{Kind: value.Map}, value.Value{Kind: 6}, value.Value{Kind: value.Number, Text: "a"}, value.Value{Kind: value.Text, Number: 1})
	if len(v.Fields) == 0 {
		return bad
	}
	v.Fields = slices.Clone(v.Fields)
	at := &v.Fields[m.IntN(len(v.Fields))]
	switch {
	case m.IntN(3) == 0:
		at.Number = pick(m, 0, -1, 1<<29)
	case m.IntN(2) == 0:
		at.Value = bad
	default:
		at.Value = m.twist(at.Value)
	}
	return v
}

// lessened is all values that come of one, if of a message in it (of itself, too) one field goes, or the Rest.
func lessened(v value.Value) []value.Value {
	var all []value.Value
	if v.Kind == value.Message {
		bare := v
		bare.Rest = ""
		all = append(all, bare)
		for _, f := range v.Fields {
			all = append(all, value.With(v, f.Number, value.Value{}))
			for _, x := range lessened(f.Value) {
				all = append(all, value.With(v, f.Number, x))
			}
		}
	}
	for i := range v.List {
		for _, x := range lessened(v.List[i]) {
			w := v
			w.List = slices.Clone(v.List)
			w.List[i] = x
			all = append(all, w)
		}
	}
	for _, p := range v.Pairs {
		for _, x := range lessened(p.Value) {
			all = append(all, value.Put(v, p.Key, x))
		}
	}
	return all
}
