package scopes

import (
	"errors"
	"slices"
	"strings"
	"testing"

	"redline/api"
	"redline/lexer"
	"redline/syntax"
)

// modelTypes is all types of a file, numbered, whatever is wrong with them.
func modelTypes(f syntax.File) []Type {
	var list []Type
	var numbers [2]int
	add := func(x Type, kind int) {
		x.Enum, x.Index = kind == 1, numbers[kind]
		numbers[kind]++
		list = append(list, x)
	}
	var messages func(of []syntax.Message, full func(name string) string)
	enums := func(of []syntax.Enum, full func(name string) string) {
		for _, e := range of {
			add(Type{Full: full(e.Name), Line: e.Line, Col: e.Col}, 1)
		}
	}
	messages = func(of []syntax.Message, full func(name string) string) {
		for _, m := range of {
			add(Type{Full: full(m.Name), Line: m.Line, Col: m.Col}, 0)
			inner := func(name string) string { return full(m.Name) + "." + name }
			enums(m.Enums, inner)
			messages(m.Messages, inner)
		}
	}
	outmost := func(name string) string {
		if f.Package == "" {
			return name
		}
		return f.Package + "." + name
	}
	enums(f.Enums, outmost)
	messages(f.Messages, outmost)
	return list
}

// modelFault is the first fault of types: none has no error.
func modelFault(list []Type) lexer.Fault {
	for i, x := range list {
		if slices.ContainsFunc(list[:i], func(y Type) bool { return x.Full == y.Full }) {
			return lexer.Fault{Line: x.Line, Col: x.Col, Err: api.ErrDup}
		}
		if i+1 == 41 {
			return lexer.Fault{Line: x.Line, Col: x.Col, Err: api.ErrLong}
		}
	}
	return lexer.Fault{}
}

func modelFind(list []Type, full string) (Type, bool) {
	at := slices.IndexFunc(list, func(x Type) bool { return x.Full == full })
	if at < 0 {
		return Type{}, false
	}
	return list[at], true
}

// modelLook is Look in the chapter's words: each full name that a name may mean, one behind the other.
func modelLook(list []Type, scope, name string) (Type, bool) {
	if name != "" && name[0] == '.' {
		return modelFind(list, name[1:])
	}
	meant := []string{scope + "." + name}
	for scope != "" {
		parts := strings.Split(scope, ".")
		scope = strings.Join(parts[:len(parts)-1], ".")
		meant = append(meant, scope+"."+name)
	}
	for _, full := range append(meant, name) {
		if x, is := modelFind(list, full); is {
			return x, true
		}
	}
	return Type{}, false
}

func modelNames(list []Type, enum bool) []string {
	var names []string
	for _, x := range list {
		if x.Enum == enum {
			names = append(names, x.Full)
		}
	}
	return names
}

// checkFault holds an answer against the one fault that is asked for.
func checkFault(t *testing.T, what any, x *Table, err error, want lexer.Fault) {
	t.Helper()
	got, is := err.(*lexer.Fault)
	if !is || got == nil || got.Line != want.Line || got.Col != want.Col || !errors.Is(err, want.Err) {
		t.Fatalf("Of(%v): %#v, want %d:%d, %v", what, err, want.Line, want.Col, want.Err)
	}
	if x != nil {
		t.Fatalf("Of(%v): a table beside an error", what)
	}
}

// checkLists holds what a table has against its types.
func checkLists(t *testing.T, x *Table, list []Type) {
	t.Helper()
	if got := x.Types(); !slices.Equal(got, list) {
		t.Fatalf("Types: %v, want %v", got, list)
	}
	if got, want := x.Messages(), modelNames(list, false); !slices.Equal(got, want) {
		t.Fatalf("Messages: %q, want %q", got, want)
	}
	if got, want := x.Enums(), modelNames(list, true); !slices.Equal(got, want) {
		t.Fatalf("Enums: %q, want %q", got, want)
	}
}

// checkNames holds what names mean in scopes against a table's types.
func checkNames(t *testing.T, x *Table, list []Type, texts []string) {
	t.Helper()
	for _, a := range texts {
		want, wanted := modelFind(list, a)
		if got, is := x.Find(a); got != want || is != wanted {
			t.Fatalf("Find(%q) of %v: %v, %v, want %v, %v", a, list, got, is, want, wanted)
		}
		for _, b := range texts {
			want, wanted := modelLook(list, a, b)
			if got, is := x.Look(a, b); got != want || is != wanted {
				t.Fatalf("Look(%q, %q) of %v: %v, %v, want %v, %v", a, b, list, got, is, want, wanted)
			}
		}
	}
}

// check holds a file's table against the model, and answers it: nil, if the file is wrong.
func check(t *testing.T, f syntax.File, texts []string) *Table {
	t.Helper()
	list := modelTypes(f)
	x, err := Of(f)
	if !slices.Equal(modelTypes(f), list) {
		t.Fatalf("Of(%v) changed its file", f)
	}
	if want := modelFault(list); want.Err != nil {
		checkFault(t, f, x, err, want)
		return nil
	}
	if err != nil || x == nil {
		t.Fatalf("Of(%v): %v, %v", f, x, err)
	}
	for range 2 { // what has been asked changes nothing
		checkLists(t, x, list)
		checkNames(t, x, list, texts)
	}
	return x
}
