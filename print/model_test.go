package print

import (
	"cmp"
	"fmt"
	"reflect"
	"slices"
	"strings"
	"testing"

	"redline/api"
	"redline/schema"
	"redline/scopes"
	"redline/syntax"
)

// modelKinds is the kinds' names, by their numbers: behind them come an enum and a message.
var modelKinds = []string{"", "double", "float", "int32", "int64", "uint32", "uint64", "sint32", "sint64", "fixed32", "fixed64", "sfixed32", "sfixed64", "bool", "string", "bytes"}

const (
	modelEnum    = 16
	modelMessage = 17
)

func modelIsNumber(kind int) bool { return kind >= 1 && kind <= 13 || kind == modelEnum }

// modelHome is a type's home in the chapter's words: each message is asked.
func modelHome(s schema.Schema, full string) int {
	for i, m := range s.Messages {
		if behind, is := strings.CutPrefix(full, m.Name+"."); is && !strings.Contains(behind, ".") {
			return i
		}
	}
	return -1
}

// modelCut parts a name at its last point.
func modelCut(full string) (ahead, last string) {
	parts := strings.Split(full, ".")
	return strings.Join(parts[:len(parts)-1], "."), parts[len(parts)-1]
}

// bracket is lines within brackets, behind a head.
func bracket(head string, lines ...[]string) []string {
	all := []string{head + " {"}
	for _, line := range slices.Concat(lines...) {
		all = append(all, "  "+line)
	}
	return append(all, "}")
}

func modelPackage(s schema.Schema) string {
	for _, e := range s.Enums {
		if modelHome(s, e.Name) == -1 {
			ahead, _ := modelCut(e.Name)
			return ahead
		}
	}
	for _, m := range s.Messages {
		if modelHome(s, m.Name) == -1 {
			ahead, _ := modelCut(m.Name)
			return ahead
		}
	}
	return ""
}

func modelType(s schema.Schema, f schema.Field) string {
	var text string
	switch {
	case f.Kind == modelEnum:
		text = "." + s.Enums[f.Type].Name
	case f.Kind == modelMessage:
		text = "." + s.Messages[f.Type].Name
	default:
		text = modelKinds[f.Kind]
	}
	if f.Label == 4 {
		return "map<" + modelKinds[f.MapKey] + ", " + text + ">"
	}
	return text
}

func modelField(s schema.Schema, f schema.Field) string {
	label := map[int]string{2: "optional ", 3: "repeated "}[f.Label]
	text := fmt.Sprintf("%s%s %s = %d", label, modelType(s, f), f.Name, f.Number)
	if f.Label == 3 && modelIsNumber(f.Kind) && !f.Packed {
		text += " [packed = false]"
	}
	for _, key := range s.Messages[f.Type*max(0, f.Kind-16)].Fields {
		if f.Key != 0 && key.Number == f.Key {
			text += " [key = " + key.Name + "]"
		}
	}
	return text + ";"
}

func modelEnumLines(e schema.Enum) []string {
	var values []string
	for i, name := range e.Names {
		values = append(values, fmt.Sprintf("%s = %d;", name, e.Numbers[i]))
	}
	_, last := modelCut(e.Name)
	return bracket("enum "+last, values)
}

func modelMessageLines(s schema.Schema, at int) []string {
	m := s.Messages[at]
	oneofs := make([][]string, len(m.Oneofs)+1)
	for _, f := range m.Fields {
		if f.Oneof >= 0 && f.Oneof < len(oneofs) {
			oneofs[f.Oneof] = append(oneofs[f.Oneof], modelField(s, f))
		}
	}
	parts := [][]string{oneofs[0]}
	for i, name := range m.Oneofs {
		parts = append(parts, bracket("oneof "+name, oneofs[i+1]))
	}
	_, last := modelCut(m.Name)
	return bracket("message "+last, append(parts, modelTypes(s, at))...)
}

// modelTypes is the lines of all types of a home.
func modelTypes(s schema.Schema, home int) []string {
	var lines []string
	for _, e := range s.Enums {
		if modelHome(s, e.Name) == home {
			lines = append(lines, modelEnumLines(e)...)
		}
	}
	for i, m := range s.Messages {
		if modelHome(s, m.Name) == home {
			lines = append(lines, modelMessageLines(s, i)...)
		}
	}
	return lines
}

// modelLines is a schema's lines in the chapter's words.
func modelLines(s schema.Schema) []string {
	lines := []string{`syntax = "proto3";`}
	if name := modelPackage(s); name != "" {
		lines = append(lines, "package "+name+";")
	}
	return append(lines, modelTypes(s, -1)...)
}

// fileLines is the lines of a file that a text may have: from its parts as they stand, not from a schema.
type fileLines struct {
	syntax.File
	table *scopes.Table
}

func linesOfFile(t *testing.T, f syntax.File) []string {
	t.Helper()
	table, err := scopes.Of(f)
	if err != nil {
		t.Fatal(err)
	}
	p := fileLines{f, table}
	lines := []string{`syntax = "proto3";`}
	if f.Package != "" && len(f.Enums)+len(f.Messages) > 0 {
		lines = append(lines, "package "+f.Package+";")
	}
	scope := ""
	if f.Package != "" {
		scope = f.Package + "."
	}
	return append(lines, p.types(scope, f.Enums, f.Messages)...)
}

func (p fileLines) types(scope string, enums []syntax.Enum, messages []syntax.Message) []string {
	var lines []string
	for _, e := range enums {
		var values []string
		for _, v := range e.Values {
			values = append(values, fmt.Sprint(v.Name, " = ", v.Number, ";"))
		}
		lines = append(lines, bracket("enum "+e.Name, values)...)
	}
	for _, m := range messages {
		lines = append(lines, p.message(scope+m.Name, m)...)
	}
	return lines
}

func (p fileLines) message(full string, m syntax.Message) []string {
	fields := slices.Clone(m.Fields)
	slices.SortFunc(fields, func(a, b syntax.Field) int { return cmp.Compare(a.Number, b.Number) })
	of := func(oneof int) []string {
		var lines []string
		for _, f := range fields {
			if f.Oneof == oneof {
				lines = append(lines, p.field(full, f))
			}
		}
		return lines
	}
	parts := [][]string{of(0)}
	for i, name := range m.Oneofs {
		parts = append(parts, bracket("oneof "+name, of(i+1)))
	}
	return bracket("message "+m.Name, append(parts, p.types(full+".", m.Enums, m.Messages))...)
}

func (p fileLines) field(scope string, f syntax.Field) string {
	text, number := f.Type, modelIsNumber(slices.Index(modelKinds, f.Type))
	if slices.Index(modelKinds, f.Type) < 1 {
		x, _ := p.table.Look(scope, f.Type)
		text, number = "."+x.Full, x.Enum
	}
	switch f.Label {
	case syntax.Map:
		text = fmt.Sprintf("map<%s, %s>", f.MapKey, text)
	case syntax.Repeated:
		text = "repeated " + text
	case syntax.Optional:
		text = "optional " + text
	}
	text += fmt.Sprintf(" %s = %d", f.Name, f.Number)
	if f.Label == syntax.Repeated && number && f.Packed == 2 {
		text += " [packed = false]"
	}
	if f.Key != "" {
		text += " [key = " + f.Key + "]"
	}
	return text + ";"
}

// check holds what is told of a schema against the model, and gives its text (nothing, if it is too long).
func check(t *testing.T, s schema.Schema) string {
	t.Helper()
	want := modelLines(s)
	if got := Lines(s); !slices.Equal(got, want) {
		t.Fatalf("Lines(%v): %q, want %q", s, got, want)
	}
	for _, m := range s.Messages {
		for _, f := range m.Fields {
			if got := Type(s, f); got != modelType(s, f) {
				t.Fatalf("Type(%v): %q, want %q", f, got, modelType(s, f))
			}
		}
	}
	for _, full := range fullNames(s) {
		if got := Home(s, full); got != modelHome(s, full) {
			t.Fatalf("Home(%v, %q): %d, want %d", s, full, got, modelHome(s, full))
		}
	}
	whole := strings.Join(want, "\n") + "\n"
	text, err := Text(s)
	if len(whole) > 4000 {
		if text != "" || err == nil || err != api.ErrLong {
			t.Fatalf("Text of %d bytes: %q, %v", len(whole), text, err)
		}
		return ""
	}
	if text != whole || err != nil {
		t.Fatalf("Text(%v): %q, %v, want %q", s, text, err, whole)
	}
	return text
}

// checkBack holds a schema that a text may have against P12.2, and tells whether its text isn't too long.
func checkBack(t *testing.T, s schema.Schema) bool {
	t.Helper()
	text := check(t, s)
	if text == "" {
		return false
	}
	back, err := schema.Of(text)
	if err != nil || !schema.Same(back, s) || !reflect.DeepEqual(back, s) {
		t.Fatalf("%s\nis compiled to %v, %v, want %v", text, back, err, s)
	}
	if again, err := Text(back); again != text || err != nil {
		t.Fatalf("%s\nhas the text %s, %v", text, again, err)
	}
	return true
}

// fullNames is the full names of all types.
func fullNames(s schema.Schema) []string {
	var list []string
	for _, m := range s.Messages {
		list = append(list, m.Name)
	}
	for _, e := range s.Enums {
		list = append(list, e.Name)
	}
	return list
}
