package print

import (
	"errors"
	"maps"
	"math"
	"math/rand/v2"
	"slices"
	"strings"
	"testing"

	"redline/api"
	"redline/schema"
	"redline/syntax"
)

// maker makes files by chance.
type maker struct {
	*rand.Rand
	packages, typeNames, partNames []string
	most                           int // how many types it makes at most in one place
}

func pick[T any](m *maker, of ...T) T { return of[m.IntN(len(of))] }

// Words that the grammar has, too: any of them may be a name. The odd ones are those that no text has.
var (
	textPackages = []string{"", "", "p", "p.q", "message", "A.B.p"}
	oddPackages  = []string{"", "p", ".", "A", "A.", "..", "p.A", "\n"}
	textTypes    = []string{"A", "B", "message", "enum", "repeated", "int32", "p", "oneof"}
	textParts    = []string{"a", "b", "c", "message", "enum", "oneof", "reserved", "repeated", "optional", "map", "packed", "key", "syntax", "to", "_", "A1", "double"}
	oddTypes     = []string{"", "A", "B", "p", "A.B", ".A", "A.", ".", "..", "A.B.", "p.A", "p.A.B", "\n", "a b"}
	oddParts     = []string{"", "a", "b", "a.b", ".", "{", "}", "\n", "a = 1;", "\xff", "//"}
)

var fieldNumbers = []int{1, 2, 3, 4, 9, 15, 16, 100, 2047, 18999, 20000, 536870911}

func (m *maker) enum(name string) syntax.Enum {
	e := syntax.Enum{Name: name, Values: []syntax.Value{{}}}
	names := m.Perm(len(m.partNames))
	for i := range m.IntN(4) {
		e.Values = append(e.Values, syntax.Value{Number: (i + 1) * pick(m, 1, -1, 7, -1000, 536870911)})
	}
	for i := range e.Values {
		e.Values[i].Name = m.partNames[names[i]]
	}
	return e
}

// types is enums and messages of unlike names, without fields.
func (m *maker) types(depth int) (enums []syntax.Enum, messages []syntax.Message) {
	names := m.Perm(len(m.typeNames))
	for i := range m.IntN(m.most + 1) {
		name := m.typeNames[names[i]]
		if m.IntN(3) == 0 {
			enums = append(enums, m.enum(name))
			continue
		}
		x := syntax.Message{Name: name}
		if depth > 0 {
			x.Enums, x.Messages = m.types(depth - 1)
		}
		messages = append(messages, x)
	}
	return enums, messages
}

// full is the full names of all enums and messages, behind a point.
func full(ahead string, enums []syntax.Enum, messages []syntax.Message) []string {
	var list []string
	for _, e := range enums {
		list = append(list, ahead+e.Name)
	}
	for _, x := range messages {
		list = append(list, ahead+x.Name)
		list = append(list, full(ahead+x.Name+".", x.Enums, x.Messages)...)
	}
	return list
}

func (m *maker) field(name string, number int, types []string) syntax.Field {
	f := syntax.Field{Name: name, Number: number, Label: 1 + m.IntN(4)}
	f.Type = pick(m, modelKinds[1:]...)
	if m.IntN(2) == 0 {
		f.Type = pick(m, types...)
	}
	switch {
	case f.Label == syntax.Map:
		f.MapKey = pick(m, modelKinds[3:15]...)
	case f.Label == syntax.Repeated && modelIsNumber(slices.Index(modelKinds, f.Type)):
		f.Packed = m.IntN(3)
	}
	return f
}

// fill gives a message, and all within it, fields.
func (m *maker) fill(x *syntax.Message, types []string) {
	names, numbers := m.Perm(len(m.partNames)), m.Perm(len(fieldNumbers))
	for i := range m.IntN(m.most * 3) {
		x.Fields = append(x.Fields, m.field(m.partNames[names[i]], fieldNumbers[numbers[i]], types))
	}
	// A oneof has one field at least, but where no text is asked for.
	for at := range x.Fields {
		if f := &x.Fields[at]; f.Label == syntax.Single && m.IntN(2) == 0 {
			if len(x.Oneofs) == 0 || m.IntN(2) == 0 {
				x.Oneofs = append(x.Oneofs, pick(m, "o", "p", "q")+string(rune('0'+len(x.Oneofs))))
			}
			f.Oneof = 1 + m.IntN(len(x.Oneofs))
		}
	}
	m.shift(x)
	for i := range x.Messages {
		m.fill(&x.Messages[i], types)
	}
}

// shift takes each oneof away that has no field.
func (m *maker) shift(x *syntax.Message) {
	for at := len(x.Oneofs); at > 0; at-- {
		if slices.ContainsFunc(x.Fields, func(f syntax.Field) bool { return f.Oneof == at }) {
			continue
		}
		x.Oneofs = slices.Delete(x.Oneofs, at-1, at)
		for i := range x.Fields {
			if x.Fields[i].Oneof > at {
				x.Fields[i].Oneof--
			}
		}
	}
}

// messagesOf is all messages, by their full names behind a point.
func messagesOf(ahead string, list []syntax.Message) map[string]*syntax.Message {
	all := map[string]*syntax.Message{}
	for i := range list {
		full := ahead + list[i].Name
		all[full] = &list[i]
		maps.Copy(all, messagesOf(full+".", list[i].Messages))
	}
	return all
}

// keyNames is the names of a message's fields that may be keys.
func keyNames(x *syntax.Message) []string {
	var names []string
	for _, f := range x.Fields {
		at := slices.Index(modelKinds, f.Type)
		if f.Label == syntax.Single && f.Oneof == 0 && at >= 3 && at <= 14 {
			names = append(names, f.Name)
		}
	}
	return names
}

// keys gives fields keys, where they may have one.
func (m *maker) keys(of *syntax.Message, all map[string]*syntax.Message) {
	for i := range of.Fields {
		f := &of.Fields[i]
		x := all[f.Type]
		if f.Label != syntax.Repeated || x == nil {
			continue
		}
		if names := keyNames(x); len(names) > 0 && m.IntN(3) > 0 {
			f.Key = pick(m, names...)
		}
	}
	for i := range of.Messages {
		m.keys(&of.Messages[i], all)
	}
}

// file is one that a text may have, of so many messages within one another.
func (m *maker) file(depth int) syntax.File {
	f := syntax.File{Package: pick(m, m.packages...)}
	f.Enums, f.Messages = m.types(depth)
	ahead := "."
	if f.Package != "" {
		ahead = "." + f.Package + "."
	}
	types := append(full(ahead, f.Enums, f.Messages), "int32")
	for i := range f.Messages {
		m.fill(&f.Messages[i], types)
	}
	all := messagesOf(ahead, f.Messages)
	for i := range f.Messages {
		m.keys(&f.Messages[i], all)
	}
	return f
}

// spoil gives the fields, the oneofs and the values of messages what no text has.
func (m *maker) spoil(list []syntax.Message) {
	for i := range list {
		x := &list[i]
		for j := range m.IntN(3) {
			x.Oneofs = append(x.Oneofs, pick(m, "z", "o.p", "}\n")+strings.Repeat(" ", j))
		}
		for j := range x.Fields {
			f := &x.Fields[j]
			switch m.IntN(24) {
			case 0:
				f.Oneof = pick(m, 1, 2, 3, -1, 99, math.MaxInt, math.MinInt)
			case 1:
				f.Label = pick(m, 0, 5, -1, 1<<32+3, math.MaxInt, math.MinInt)
			case 2:
				f.MapKey = pick(m, "", "int32", "x")
			case 3:
				f.Packed = pick(m, 0, 1, 2, 3)
			}
		}
		for j := range x.Enums {
			last := &x.Enums[j].Values[len(x.Enums[j].Values)-1]
			last.Number = min(last.Number, pick(m, last.Number, math.MinInt, -1<<31))
		}
		m.spoil(x.Messages)
	}
}

// P12.1, P12.2: schemas of files that texts may have, made by chance, against both models.
func TestMixedFiles(t *testing.T) {
	compiled, long, keys, nested := 0, 0, 0, 0
	for seed := range uint64(10000) {
		m := maker{Rand: rand.New(rand.NewPCG(seed, 12)), packages: textPackages, typeNames: textTypes, partNames: textParts, most: 1 + int(seed%4)}
		f := m.file(int(seed % 5))
		s, err := schema.Compile(f)
		if err != nil {
			if !errors.Is(err, api.ErrLong) {
				t.Fatalf("%v: %v", f, errors.Unwrap(err))
			}
			continue // it has too many types, or fields
		}
		compiled++
		if got, want := Lines(s), linesOfFile(t, f); !slices.Equal(got, want) {
			t.Fatalf("Lines of %v: %q, want %q", f, got, want)
		}
		if !checkBack(t, s) {
			long++
		}
		for _, x := range s.Messages {
			if Home(s, x.Name) >= 0 {
				nested++
			}
			if slices.ContainsFunc(x.Fields, func(f schema.Field) bool { return f.Key > 0 }) {
				keys++
			}
		}
	}
	if compiled < 2000 || long < 10 || keys < 500 || nested < 2000 {
		t.Errorf("%d compiled, %d too long, %d with keys, %d nested", compiled, long, keys, nested)
	}
}

// P12.1: schemas of files that no text has.
func TestOddFiles(t *testing.T) {
	compiled, homes := 0, 0
	for seed := range uint64(20000) {
		m := maker{Rand: rand.New(rand.NewPCG(seed, 13)), packages: oddPackages, typeNames: oddTypes, partNames: oddParts, most: 3}
		f := m.file(1 + int(seed%3))
		m.spoil(f.Messages)
		s, err := schema.Compile(f)
		if err != nil {
			continue
		}
		compiled++
		check(t, s)
		for _, name := range fullNames(s) {
			if Home(s, name) >= 0 {
				homes++
			}
			for _, other := range []string{name + ".", name + ".A", name + "..", "." + name, name + ".A.B", strings.TrimSuffix(name, "A"), name + "A"} {
				if got, want := Home(s, other), modelHome(s, other); got != want {
					t.Fatalf("Home(%v, %q): %d, want %d", s, other, got, want)
				}
			}
		}
	}
	if compiled < 2000 || homes < 2000 {
		t.Errorf("%d compiled, %d homes", compiled, homes)
	}
}
