package schema

import (
	"cmp"
	"errors"
	"reflect"
	"slices"
	"testing"

	"redline/api"
	"redline/lexer"
	"redline/scopes"
	"redline/syntax"
)

// modelKinds is the kinds' names, by their numbers: behind them come those that have none.
var modelKinds = []string{"", "double", "float", "int32", "int64", "uint32", "uint64", "sint32", "sint64", "fixed32", "fixed64", "sfixed32", "sfixed64", "bool", "string", "bytes"}

const (
	modelEnum    = 16
	modelMessage = 17
)

// model is a file with its types in the order in which they are come to.
type model struct {
	types    *scopes.Table
	all      []any // syntax.Enum, syntax.Message
	messages []syntax.Message
	enums    []syntax.Enum
	asked    []asked
}

// asked is something that must be so, and the fault, if it isn't.
type asked struct {
	fault lexer.Fault
	so    bool
}

func (m *model) ask(so bool, err error, line, col int) {
	m.asked = append(m.asked, asked{lexer.Fault{Line: line, Col: col, Err: err}, so})
}

func (m *model) add(enums []syntax.Enum, messages []syntax.Message) {
	for _, e := range enums {
		m.all, m.enums = append(m.all, e), append(m.enums, e)
	}
	for _, x := range messages {
		m.all, m.messages = append(m.all, x), append(m.messages, x)
		m.add(x.Enums, x.Messages)
	}
}

// meant is what a field's type means in a message: the kind 0, if it means nothing.
func (m *model) meant(message int, name string) (kind, number int) {
	if at := slices.Index(modelKinds, name); at > 0 {
		return at, 0
	}
	x, is := m.types.Look(m.types.Messages()[message], name)
	if !is {
		return 0, 0
	}
	if x.Enum {
		return modelEnum, x.Index
	}
	return modelMessage, x.Index
}

func isNumber(kind int) bool { return kind >= 1 && kind <= 13 || kind == modelEnum }

func (m *model) askEnum(e syntax.Enum) {
	m.ask(len(e.Values) > 0 && e.Values[0].Number == 0, api.ErrForm, e.Line, e.Col)
	names, numbers := map[string]bool{}, map[int]bool{}
	for i, v := range e.Values {
		m.ask(!names[v.Name] && !numbers[v.Number], api.ErrDup, v.Line, v.Col)
		m.ask(i+1 != 41, api.ErrLong, v.Line, v.Col)
		names[v.Name], numbers[v.Number] = true, true
	}
}

func (m *model) askMessage(message int, x syntax.Message) {
	names, numbers := map[string]bool{}, map[int]bool{}
	for i, f := range x.Fields {
		ask := func(so bool, err error) { m.ask(so, err, f.Line, f.Col) }
		n := f.Number
		ask(i+1 != 41, api.ErrLong)
		ask(n >= 1 && n <= 536870911 && !(n >= 19000 && n <= 19999), api.ErrRange)
		ask(!names[f.Name] && !numbers[n], api.ErrDup)
		names[f.Name], numbers[n] = true, true
		for _, r := range x.Reserved {
			ask(n < r.From || n > r.To, api.ErrForm)
		}
		ask(!slices.Contains(x.Names, f.Name), api.ErrForm)
		kind, _ := m.meant(message, f.Type)
		ask(kind > 0, api.ErrName)
		if f.Label == 4 {
			at := slices.Index(modelKinds, f.MapKey)
			ask(at >= 3 && at <= 14, api.ErrKind)
		}
		if f.Packed != 0 {
			ask(f.Label == 3 && isNumber(kind), api.ErrKind)
		}
		if f.Key != "" {
			ask(f.Label == 3 && kind == modelMessage, api.ErrKind)
		}
	}
	for _, o := range x.Oneofs {
		m.ask(!names[o], api.ErrDup, x.Line, x.Col)
		names[o] = true
	}
}

// keyed is the field of the name that a field tells as its key, in the message of its type, with its kind.
func (m *model) keyed(message int, f syntax.Field) (key syntax.Field, kind int) {
	_, at := m.meant(message, f.Type)
	for _, x := range m.messages[at].Fields {
		if x.Name == f.Key {
			kind, _ = m.meant(at, x.Type)
			return x, kind
		}
	}
	return syntax.Field{}, 0
}

func (m *model) askKeys(message int, x syntax.Message) {
	for _, f := range x.Fields {
		if f.Key == "" {
			continue
		}
		key, kind := m.keyed(message, f)
		is := kind >= 3 && kind <= 14 || kind == modelEnum
		m.ask(is && key.Label == 1 && key.Oneof == 0, api.ErrName, f.Line, f.Col)
	}
}

// fault is that of the first thing that isn't so.
func (m *model) fault() (lexer.Fault, bool) {
	for _, a := range m.asked {
		if !a.so {
			return a.fault, true
		}
	}
	return lexer.Fault{}, false
}

// schema is that of a file that is right.
func (m *model) schema() Schema {
	var s Schema
	for i, e := range m.enums {
		done := Enum{Name: m.types.Enums()[i]}
		for _, v := range e.Values {
			done.Names, done.Numbers = append(done.Names, v.Name), append(done.Numbers, v.Number)
		}
		s.Enums = append(s.Enums, done)
	}
	for i, x := range m.messages {
		done := Message{Name: m.types.Messages()[i], Oneofs: x.Oneofs}
		for _, f := range x.Fields {
			g := Field{Name: f.Name, Number: f.Number, Label: f.Label, Oneof: f.Oneof}
			g.Kind, g.Type = m.meant(i, f.Type)
			g.Packed = f.Label == 3 && isNumber(g.Kind) && f.Packed != 2
			if f.Label == 4 {
				g.MapKey = slices.Index(modelKinds, f.MapKey)
			}
			if f.Key != "" {
				key, _ := m.keyed(i, f)
				g.Key = key.Number
			}
			done.Fields = append(done.Fields, g)
		}
		slices.SortFunc(done.Fields, func(a, b Field) int { return cmp.Compare(a.Number, b.Number) })
		s.Messages = append(s.Messages, done)
	}
	return s
}

// modelCompile is Compile in the chapter's words: a schema, or the first fault.
func modelCompile(f syntax.File) (Schema, lexer.Fault) {
	m := model{}
	m.add(f.Enums, f.Messages)
	var err error
	if m.types, err = scopes.Of(f); err != nil {
		return Schema{}, *err.(*lexer.Fault)
	}
	message := 0
	for _, x := range m.all {
		switch x := x.(type) {
		case syntax.Enum:
			m.askEnum(x)
		case syntax.Message:
			m.askMessage(message, x)
			message++
		}
	}
	// Keys are asked only when all else is so: a field's type means nothing, else.
	if first, is := m.fault(); is {
		return Schema{}, first
	}
	for i, x := range m.messages {
		m.askKeys(i, x)
	}
	if first, is := m.fault(); is {
		return Schema{}, first
	}
	return m.schema(), lexer.Fault{}
}

// checkFault holds an answer against the one fault that is asked for.
func checkFault(t *testing.T, what any, s Schema, err error, want lexer.Fault) {
	t.Helper()
	got, is := err.(*lexer.Fault)
	if !is || got == nil || *got != want || !errors.Is(err, want.Err) {
		t.Fatalf("%v: %#v, want %d:%d, %v", what, err, want.Line, want.Col, want.Err)
	}
	if !reflect.DeepEqual(s, Schema{}) {
		t.Fatalf("%v: a schema beside an error: %v", what, s)
	}
}

// check holds a file's schema against the model, and tells whether the file is right.
func check(t *testing.T, f syntax.File) (Schema, bool) {
	t.Helper()
	want, fault := modelCompile(f)
	got, err := Compile(f)
	if fault.Err != nil {
		checkFault(t, f, got, err, fault)
		return Schema{}, false
	}
	if err != nil || !reflect.DeepEqual(got, want) {
		t.Fatalf("Compile(%v): %v, %v, want %v", f, got, err, want)
	}
	checkWhole(t, got)
	return got, true
}

// checkWhole holds a schema against P11.2.
func checkWhole(t *testing.T, s Schema) {
	t.Helper()
	for _, m := range s.Messages {
		for i, f := range m.Fields {
			if i > 0 && m.Fields[i-1].Number >= f.Number {
				t.Fatalf("%s: the field %d stands ahead of %d", m.Name, m.Fields[i-1].Number, f.Number)
			}
			many := 1 // only the type 0 is there of kinds without a type
			switch f.Kind {
			case modelEnum:
				many = len(s.Enums)
			case modelMessage:
				many = len(s.Messages)
			}
			if f.Kind < 1 || f.Kind > modelMessage || f.Type < 0 || f.Type >= many {
				t.Fatalf("%s: the field %d is of the kind %d and the type %d", m.Name, f.Number, f.Kind, f.Type)
			}
		}
	}
}
