package schema

import (
	"math"
	"math/rand/v2"
	"slices"
	"testing"

	"redline/syntax"
)

// maker makes files by chance.
type maker struct {
	*rand.Rand
	line int
}

func pick[T any](m *maker, of ...T) T { return of[m.IntN(len(of))] }

// place is another one each time, that has to do with no text.
func (m *maker) place() (line, col int) {
	m.line++
	return m.line, -m.line * 3
}

var (
	typeNames   = []string{"A", "B", "C", "D", "E", "F", "G", "H"}
	fieldNames  = []string{"a", "b", "c", "d", "e", "f", "int32", "A"}
	fieldNumber = []int{1, 2, 3, 15, 16, 18999, 20000, 536870911}
	wrongNumber = []int{0, -1, 19000, 19500, 19999, 536870912, math.MaxInt, math.MinInt, 1<<32 + 1}
	plainTypes  = []string{"double", "float", "int32", "bool", "string", "bytes", "sint64"}
)

func (m *maker) enum(name string) syntax.Enum {
	e := syntax.Enum{Name: name}
	e.Line, e.Col = m.place()
	names := m.Perm(len(fieldNames))
	for i := range 1 + m.IntN(3) {
		v := syntax.Value{Name: fieldNames[names[i]], Number: i * pick(m, 1, -1, 1000)}
		if m.IntN(20) == 0 {
			v.Number = pick(m, 0, 1)
		}
		v.Line, v.Col = m.place()
		e.Values = append(e.Values, v)
	}
	return e
}

// field is one of a message, of such a name and number: mostly a right one.
func (m *maker) field(name string, number int) syntax.Field {
	f := syntax.Field{Name: name, Number: number, Label: 1 + m.IntN(4)}
	f.Line, f.Col = m.place()
	f.Type = pick(m, pick(m, plainTypes...), pick(m, typeNames[:3]...))
	if m.IntN(40) == 0 {
		f.Type = pick(m, "A.B", ".A", ".p.A", "p.A", "B.C", "enum", ".int32")
	}
	switch {
	case f.Label == syntax.Map:
		f.MapKey = pick(m, "int32", "string", "bool", "fixed64")
	case f.Label == syntax.Repeated && slices.Contains(plainTypes[:4], f.Type):
		f.Packed = m.IntN(3)
	case f.Label == syntax.Repeated && slices.Contains(typeNames, f.Type) && m.IntN(2) == 0:
		f.Key = pick(m, "id", "id", "id", "id", "id", "id", "id", "id", pick(m, fieldNames...))
	}
	return f
}

func (m *maker) message(name string, depth int) syntax.Message {
	x := syntax.Message{Name: name}
	x.Line, x.Col = m.place()
	names, numbers := m.Perm(len(fieldNames)), m.Perm(len(fieldNumber))
	for i := range m.IntN(5) {
		x.Fields = append(x.Fields, m.field(fieldNames[names[i]], fieldNumber[numbers[i]]))
	}
	if m.IntN(10) > 0 {
		id := syntax.Field{Name: "id", Number: 1 << 20, Label: syntax.Single, Type: pick(m, "int32", "string", "uint64")}
		id.Line, id.Col = m.place()
		x.Fields = slices.Insert(x.Fields, m.IntN(len(x.Fields)+1), id)
	}
	for i := range m.IntN(3) {
		x.Oneofs = append(x.Oneofs, pick(m, "o", "p", "q", "r", "s", "t")+string(rune('0'+i)))
		for j := range x.Fields {
			if f := &x.Fields[j]; f.Label == syntax.Single && m.IntN(4) == 0 {
				f.Oneof = i + 1
			}
		}
	}
	if m.IntN(4) == 0 {
		x.Reserved = []syntax.Range{{From: 4, To: 14}, {From: 17, To: pick(m, 17, 18000)}, {From: 100, To: 1}}
		x.Names = []string{"x", "y"}
	}
	if depth > 0 {
		x.Enums, x.Messages = m.types(depth - 1)
	}
	return x
}

// types is enums and messages of unlike names.
func (m *maker) types(depth int) (enums []syntax.Enum, messages []syntax.Message) {
	names := m.Perm(3)
	for i := range 1 + m.IntN(3) {
		if name := typeNames[names[i]]; m.IntN(3) == 0 {
			enums = append(enums, m.enum(name))
		} else {
			messages = append(messages, m.message(name, depth))
		}
	}
	return enums, messages
}

func (m *maker) file() syntax.File {
	f := syntax.File{Package: pick(m, "", "", "p", "p.q")}
	f.Enums, f.Messages = m.types(2)
	// A type of each name is there in the outmost scope, so that more names mean one.
	for _, name := range typeNames[:3] {
		if !slices.ContainsFunc(f.Enums, func(e syntax.Enum) bool { return e.Name == name }) &&
			!slices.ContainsFunc(f.Messages, func(x syntax.Message) bool { return x.Name == name }) {
			f.Messages = append(f.Messages, m.message(name, 0))
		}
	}
	return f
}

// spoil changes something of a message, or of what is within it.
func (m *maker) spoil(x *syntax.Message) {
	if len(x.Messages) > 0 && m.IntN(2) == 0 {
		m.spoil(&x.Messages[m.IntN(len(x.Messages))])
		return
	}
	switch m.IntN(4) {
	case 0:
		x.Oneofs = append(x.Oneofs, pick(m, "a", "b", "o0", "p0", "q1", "z"))
	case 1:
		x.Reserved = append(x.Reserved, syntax.Range{From: pick(m, 1, 3, 15, 30000), To: pick(m, 1, 2, 15, 20000, math.MaxInt)})
	case 2:
		x.Names = append(x.Names, pick(m, fieldNames...))
	}
	if len(x.Fields) > 0 {
		m.spoilField(&x.Fields[m.IntN(len(x.Fields))])
	}
}

func (m *maker) spoilField(f *syntax.Field) {
	switch m.IntN(9) {
	case 0:
		f.Name = pick(m, fieldNames...)
	case 1:
		f.Number = pick(m, fieldNumber...)
	case 2:
		f.Number = pick(m, wrongNumber...)
	case 3:
		f.Type = pick(m, "", "X", "A.X", ".p", "message", "Int32", "uint32", "C", ".A.B")
	case 4:
		f.Label = pick(m, 0, -1, 5, 1, 2, 3, 4)
	case 5:
		f.Packed = pick(m, 1, 2, 3, -1, math.MaxInt)
	case 6:
		f.Key = pick(m, "id", pick(m, fieldNames...))
	case 7:
		f.MapKey = pick(m, "", "double", "float", "bytes", "A", "enum", "uint64", "sfixed32")
	case 8:
		f.Oneof = pick(m, 0, 1, 2, -1, math.MaxInt)
	}
}

// P11.1, P11.2: files made by chance, right and wrong, against the model.
func TestMixedFiles(t *testing.T) {
	counts := map[error]int{}
	keys := 0
	for seed := range uint64(20000) {
		m := maker{Rand: rand.New(rand.NewPCG(seed, 0))}
		f := m.file()
		if seed%2 == 1 && len(f.Messages) > 0 {
			m.spoil(&f.Messages[m.IntN(len(f.Messages))])
		}
		s, _ := check(t, f)
		_, fault := modelCompile(f)
		counts[fault.Err]++
		for _, x := range s.Messages {
			for _, g := range x.Fields {
				if g.Key > 0 {
					keys++
				}
			}
		}
	}
	if len(counts) != 6 || keys < 500 {
		t.Errorf("%v, %d keys", counts, keys)
	}
	for err, n := range counts {
		if n < 100 {
			t.Errorf("%v: %d", err, n)
		}
	}
}
