package scopes

import (
	"math"
	"math/rand/v2"
	"reflect"
	"slices"
	"strconv"
	"strings"
	"testing"
	"unsafe"

	"redline/api"
	"redline/lexer"
	"redline/syntax"
)

// file is what a text declares behind its syntax.
func file(t *testing.T, text string) syntax.File {
	t.Helper()
	f, err := syntax.Of("syntax = 'proto3'; " + text)
	if err != nil {
		t.Fatalf("%s: %v", text, err)
	}
	return f
}

// table is that of what a text declares.
func table(t *testing.T, text string) *Table {
	t.Helper()
	x, err := Of(file(t, text))
	if err != nil {
		t.Fatalf("Of(%s): %v", text, err)
	}
	return x
}

// allTexts is all texts of at most so many of some bytes.
func allTexts(of string, most int) []string {
	list := []string{""}
	last := list
	for range most {
		var next []string
		for _, s := range last {
			for _, b := range of {
				next = append(next, s+string(b))
			}
		}
		list = append(list, next...)
		last = next
	}
	return list
}

// maker makes files by chance, of a few names.
type maker struct {
	*rand.Rand
	names []string
	line  int
}

func (m *maker) name() string { return m.names[m.IntN(len(m.names))] }

// place is another one each time, that has to do with no text.
func (m *maker) place() (line, col int) {
	m.line++
	return m.line, -m.line * 3
}

func (m *maker) enums(most int) []syntax.Enum {
	var list []syntax.Enum
	for range m.IntN(most + 1) {
		e := syntax.Enum{Name: m.name()}
		e.Line, e.Col = m.place()
		list = append(list, e)
	}
	return list
}

func (m *maker) messages(most int) []syntax.Message {
	var list []syntax.Message
	for range m.IntN(most + 1) {
		x := syntax.Message{Name: m.name()}
		x.Line, x.Col = m.place()
		if most > 0 {
			x.Messages, x.Enums = m.messages(most-1), m.enums(most/2)
		}
		list = append(list, x)
	}
	return list
}

func (m *maker) file() syntax.File {
	f := syntax.File{Messages: m.messages(3), Enums: m.enums(1)}
	if m.IntN(2) == 0 {
		f.Package = m.name()
		if m.IntN(2) == 0 {
			f.Package += "." + m.name()
		}
	}
	return f
}

// P9.1: files made by chance, of names that a text may have, and of others, against the model.
func TestMixedFiles(t *testing.T) {
	all := allTexts("ab.", 4)
	right, wrong := 0, 0
	for seed := range uint64(1500) {
		m := maker{Rand: rand.New(rand.NewPCG(seed, 0)), names: []string{"a", "b", "ab", "ba", "abb", "aa"}}
		if seed%3 == 0 {
			m.names = []string{"a", "b", "", ".", "a.b", ".a", "b.", "a.b.a", "\xff", strings.Repeat("b", 50)}
		}
		f := m.file()
		texts := []string{f.Package, f.Package + "."}
		for _, x := range modelTypes(f) {
			texts = append(texts, x.Full, "."+x.Full, x.Full+".a", x.Full[strings.LastIndex(x.Full, ".")+1:])
		}
		texts = append(texts[:min(len(texts), 60)], all[int(seed)%7:][:20+int(seed)%20]...)
		if check(t, f, texts) != nil {
			right++
		} else {
			wrong++
		}
	}
	if right < 500 || wrong < 500 {
		t.Errorf("%d right ones, %d wrong ones", right, wrong)
	}
}

// P9.1: all scopes and names of a few bytes, in files that have types of many depths.
func TestAllNames(t *testing.T) {
	all := allTexts("ab.", 5)
	for _, text := range []string{
		"",
		"message a { } message b { }",
		"message a { message a { message a { } } enum b { z = 0; } } enum b { z = 0; }",
		"package a; message a { message b { message a { } } } enum b { z = 0; }",
		"package a.b; message a { message b { } } message b { message b { } }",
	} {
		f := file(t, text)
		if check(t, f, all) == nil {
			t.Errorf("%s is right", text)
		}
	}
}

// P9.1: types that are written out.
func TestTypes(t *testing.T) {
	for _, row := range []struct {
		text string
		want []Type
	}{
		{"", nil},
		{"package p;", nil},
		{"message M { }", []Type{{"M", false, 0, 1, 28}}},
		{"enum E { Z = 0; }", []Type{{"E", true, 0, 1, 25}}},
		{"package p.q; message M { }", []Type{{"p.q.M", false, 0, 1, 41}}},
		{ // a text's enums come first, wherever they stand
			"message M { message N { } enum E { Z = 0; } }\nenum F { Z = 0; } message O { enum G { Z = 0; } enum H { Z = 0; } } enum I { Z = 0; }",
			[]Type{
				{"F", true, 0, 2, 6}, {"I", true, 1, 2, 74},
				{"M", false, 0, 1, 28}, {"M.E", true, 2, 1, 51}, {"M.N", false, 1, 1, 40},
				{"O", false, 2, 2, 27}, {"O.G", true, 3, 2, 36}, {"O.H", true, 4, 2, 54},
			},
		},
		{
			"package p;\nmessage A {\n message B {\n message C { enum E { Z = 0; } }\n message D { } }\n message E { } }\nmessage B { message C { } }",
			[]Type{
				{"p.A", false, 0, 2, 9}, {"p.A.B", false, 1, 3, 10}, {"p.A.B.C", false, 2, 4, 10}, {"p.A.B.C.E", true, 0, 4, 19},
				{"p.A.B.D", false, 3, 5, 10}, {"p.A.E", false, 4, 6, 10}, {"p.B", false, 5, 7, 9}, {"p.B.C", false, 6, 7, 21},
			},
		},
		{ // fields, oneofs and values are no types
			"message M { int32 a = 1; oneof o { M b = 2; } map<string, M> c = 3; reserved 'd'; } enum E { M = 0; F = 1; }",
			[]Type{{"E", true, 0, 1, 109}, {"M", false, 0, 1, 28}},
		},
	} {
		x := table(t, row.text)
		checkLists(t, x, row.want)
		for _, want := range row.want {
			if got, is := x.Find(want.Full); !is || got != want {
				t.Errorf("Find(%q) of %s: %v, %v, want %v", want.Full, row.text, got, is, want)
			}
		}
	}
}

// P9.1: full names of names that no text has.
func TestStrangeNames(t *testing.T) {
	inner := []syntax.Message{{Name: ""}, {Name: "."}, {Name: "a.b", Messages: []syntax.Message{{Name: ".c"}}}}
	for _, row := range []struct {
		f    syntax.File
		want []string
	}{
		{syntax.File{Messages: inner}, []string{"", ".", "a.b", "a.b..c"}},
		{syntax.File{Package: ".", Messages: inner}, []string{"..", "...", "..a.b", "..a.b..c"}},
		{syntax.File{Messages: []syntax.Message{{Name: "", Messages: inner}}}, []string{"", ".", "..", ".a.b", ".a.b..c"}},
		{syntax.File{Package: "p", Messages: []syntax.Message{{Name: "", Messages: inner}}}, []string{"p.", "p..", "p...", "p..a.b", "p..a.b..c"}},
	} {
		x, err := Of(row.f)
		if err != nil || !slices.Equal(x.Messages(), row.want) {
			t.Fatalf("Of(%v): %v, %v, want %q", row.f, x, err, row.want)
		}
		check(t, row.f, allTexts("abc.", 4))
	}
	// Names that are written in other ways may come to the same one.
	x, err := Of(syntax.File{Messages: []syntax.Message{{Name: "a", Messages: []syntax.Message{{Name: "b"}}}, {Name: "a.b", Line: 3, Col: 7}}})
	checkFault(t, "a.b twice", x, err, lexer.Fault{Line: 3, Col: 7, Err: api.ErrDup})
}

// P9.1: faults that are written out, with their places.
func TestFaults(t *testing.T) {
	for _, row := range []struct {
		text      string
		line, col int
	}{
		{"message A { }\nmessage A { }", 2, 9},
		{"enum A { Z = 0; }\nenum A { Z = 0; }", 2, 6},
		{"enum A { Z = 0; }\nmessage A { }", 2, 9},
		{"\nmessage A { }\nenum A { Z = 0; }", 2, 9}, // the enum is ahead of it
		{"package p; message A { }\nmessage B { } message A { }", 2, 23},
		{"message A {\nmessage B { } message B { } }", 2, 23},
		{"message A {\nenum B { Z = 0; } enum B { Z = 0; } }", 2, 24},
		{"message A {\nmessage B { } enum B { Z = 0; } }", 2, 9}, // the enum is ahead of it
		{"message A { message A { message A { } message B { }\nmessage A { } } }", 2, 9},
		// The first one in the order of the types, not in that of the text.
		{"message A { }\nmessage A { }\nenum B { Z = 0; } enum B { Z = 0; }", 3, 24},
		{"message A {\nmessage B { } message B { } }\nmessage A { }", 2, 23},
		{"message A { message C { }\nmessage B { message D { } message D { } } message C { }\n }", 2, 35},
		{"message A { }\nmessage A { message B { } message B { } }", 2, 9},
	} {
		x, err := Of(file(t, row.text))
		checkFault(t, row.text, x, err, lexer.Fault{Line: row.line, Col: row.col, Err: api.ErrDup})
		if line, col, is := lexer.Where(err); line != row.line || col != row.col || !is {
			t.Errorf("Where of %s: %d, %d, %v", row.text, line, col, is)
		}
	}
	for _, text := range []string{
		"message A { message A { message A { } enum B { A = 0; B = 1; } } } message B { }",
		"package A; message A { message A { } }",
		"message A { message B { } } message B { message A { } }",
		"message A { } message a { }",
		"message A { int32 A = 1; int32 A = 1; oneof A { int32 A = 2; } } enum B { A = 0; A = 0; }",
	} {
		table(t, text)
	}
}

// wide is a file of so many enums, and so many messages in each of so many messages.
func wide(enums, messages, inner int) syntax.File {
	var f syntax.File
	line := 0
	next := func() (string, int, int) {
		line++
		return "T" + strconv.Itoa(line), line, -line
	}
	for range enums {
		var e syntax.Enum
		e.Name, e.Line, e.Col = next()
		f.Enums = append(f.Enums, e)
	}
	for range messages {
		var m syntax.Message
		m.Name, m.Line, m.Col = next()
		for range inner {
			var x syntax.Message
			x.Name, x.Line, x.Col = next()
			m.Messages = append(m.Messages, x)
		}
		f.Messages = append(f.Messages, m)
	}
	return f
}

// P9.1: as many types as may be, and one more.
func TestManyTypes(t *testing.T) {
	long := lexer.Fault{Line: 41, Col: -41, Err: api.ErrLong}
	for _, row := range []struct {
		f    syntax.File
		most bool
	}{
		{wide(40, 0, 0), true},
		{wide(0, 40, 0), true},
		{wide(20, 20, 0), true},
		{wide(0, 1, 39), true},
		{wide(10, 3, 9), true},
		{wide(0, 0, 0), true},
		{wide(41, 0, 0), false},
		{wide(0, 41, 0), false},
		{wide(40, 1, 0), false},
		{wide(1, 40, 0), false},
		{wide(0, 1, 40), false},
		{wide(10, 3, 10), false},
		{wide(1000, 1000, 10), false},
	} {
		x, err := Of(row.f)
		if !row.most {
			checkFault(t, "too many", x, err, long)
			continue
		}
		if err != nil {
			t.Fatalf("Of(%v): %v", row.f, err)
		}
		checkLists(t, x, modelTypes(row.f))
		checkNames(t, x, modelTypes(row.f), []string{"", "T1", "T2", "T1.T2", "T40", "T41", "T1.T40", ".T1", ".T1.T40"})
	}

	// A name that is there already is told first, ahead of the limit and at it, but not behind it.
	f := wide(30, 11, 0)
	for _, row := range []struct {
		at   int
		want lexer.Fault
	}{
		{8, lexer.Fault{Line: 39, Col: -39, Err: api.ErrDup}},
		{9, lexer.Fault{Line: 40, Col: -40, Err: api.ErrDup}},
		{10, lexer.Fault{Line: 41, Col: -41, Err: api.ErrDup}},
	} {
		again := wide(30, 11, 0)
		again.Messages[row.at].Name = "T1"
		x, err := Of(again)
		checkFault(t, row.at, x, err, row.want)
	}
	f.Messages = append(f.Messages, f.Messages[0])
	x, err := Of(f)
	checkFault(t, "a name twice behind the limit", x, err, long)
}

// P9.1: what names mean, written out.
func TestLook(t *testing.T) {
	packed := table(t, "package p; message M { message N { message M { } } } message N { } enum E { Z = 0; } message O { enum E { Z = 0; } }")
	deep := table(t, "package p.q; message p { } message q { message M { message p { message q { } } } } message M { }")
	bare := table(t, "message M { message N { } message M { } } message N { } message p { message N { } }")
	// Behind the last scope that has a name, the empty one, comes the name alone.
	strange, err := Of(syntax.File{Messages: []syntax.Message{{Name: "", Messages: []syntax.Message{{Name: "N"}, {Name: "O"}}}, {Name: "N"}, {Name: "P"}}})
	if err != nil {
		t.Fatal(err)
	}
	for _, row := range []struct {
		of          *Table
		scope, name string
		want        string // nothing, if there is none
	}{
		{packed, "p.M", "N", "p.M.N"},
		{packed, "p", "N", "p.N"},
		{packed, "p.M.N", "N", "p.M.N"},
		{packed, "p.M.N", "M", "p.M.N.M"},
		{packed, "p.M.N.M", "M", "p.M.N.M"},
		{packed, "p.M", "M", "p.M"},
		{packed, "p.N", "N", "p.N"},
		{packed, "p.M.N", "O", "p.O"},
		{packed, "p.M.N", "E", "p.E"},
		{packed, "p.O", "E", "p.O.E"},
		{packed, "p.M", "O.E", "p.O.E"},
		{packed, "p.M", "M.N", "p.M.N"},
		{packed, "p.M.N", "N.M", "p.M.N.M"},
		{packed, "p.M", "p.N", "p.N"},
		{packed, "", "p.N", "p.N"},
		{packed, "", "N", ""},
		{packed, "", "p.M.N.M", "p.M.N.M"},
		{packed, "q", "N", ""},
		{packed, "q", "p.N", "p.N"},
		{packed, "p.X", "N", "p.N"},
		{packed, "p.M.X.Y", "N", "p.M.N"},
		{packed, "p.", "N", "p.N"},
		{packed, "p.M.", "N", "p.M.N"},
		{packed, "p.M", ".N", ""},
		{packed, "p.M", ".p.N", "p.N"},
		{packed, "p.M", ".p.M.N", "p.M.N"},
		{packed, "p.M", ".M.N", ""},
		{packed, "p.M", "..p.N", ""},
		{packed, "p.M", ".", ""},
		{packed, "p.M", "", ""},
		{packed, "p.M", "N.", ""},
		{packed, "p.M", "Z", ""},
		{packed, "p.M", "n", ""},
		{packed, "pxM", "N", ""},
		{packed, "p.Mx", "N", "p.N"},
		{packed, "x.p.M", "N", ""},
		{deep, "p.q.q.M", "p", "p.q.q.M.p"},
		{deep, "p.q.q", "p", "p.q.p"},
		{deep, "p.q.q.M.p", "q", "p.q.q.M.p.q"},
		{deep, "p.q.q.M", "q", "p.q.q"},
		{deep, "p.q.q", "M", "p.q.q.M"},
		{deep, "p.q", "M", "p.q.M"},
		{deep, "p.q.M", "p.q", ""}, // no type of another name is told
		{deep, "p.q.M", "q.q", "p.q.q"},
		{deep, "p.q.M", "p.q.q", "p.q.q"},
		{deep, "p", "q", ""},
		{deep, "p", "q.q", "p.q.q"},
		{deep, "p", "q.M", "p.q.M"},
		{bare, "", "N", "N"},
		{bare, "M", "N", "M.N"},
		{bare, "M", "M", "M.M"},
		{bare, "N", "N", "N"},
		{bare, "N", "M", "M"},
		{bare, "N", "M.N", "M.N"},
		{bare, "M", "M.N", "M.N"},
		{bare, "M.M", "M", "M.M"},
		{bare, "M.M", "N", "M.N"},
		{bare, "p", "N", "p.N"},
		{bare, "M", ".N", "N"},
		{bare, "M", ".M", "M"},
		{bare, "M", ".M.M", "M.M"},
		{bare, ".", "N", "N"},
		{bare, ".M", "N", "N"},
		{strange, "", "N", ".N"},
		{strange, "", "O", ".O"},
		{strange, "x.y", "O", ".O"},
		{strange, ".N", "N", ".N"},
		{strange, ".N", "P", "P"},
		{strange, ".N", ".N", "N"},
		{strange, "", "..N", ".N"},
	} {
		got, is := row.of.Look(row.scope, row.name)
		want, wanted := modelFind(row.of.Types(), row.want)
		if row.want == "" {
			want, wanted = Type{}, false
		}
		if got != want || is != wanted {
			t.Errorf("Look(%q, %q): %v, %v, want %q", row.scope, row.name, got, is, row.want)
		}
	}
	if got, is := strange.Look("P", "."); !is || got != (Type{}) {
		t.Errorf("Look of the empty name behind a point: %v, %v", got, is)
	}
}

// P9.1: only what is a full name is found.
func TestFind(t *testing.T) {
	x := table(t, "package p; message M { message N { } enum E { Z = 0; } }")
	for _, full := range []string{"p.M", "p.M.N", "p.M.E"} {
		if got, is := x.Find(full); !is || got.Full != full {
			t.Errorf("Find(%q): %v, %v", full, got, is)
		}
	}
	for _, full := range []string{"", ".", "p", "M", "N", "p.", ".p.M", "p.M.", "p.N", "M.N", "p.M.Z", "p.m", "p.M.N.E", "p.M\x00", " p.M", "p..M"} {
		if got, is := x.Find(full); is || got != (Type{}) {
			t.Errorf("Find(%q): %v, %v", full, got, is)
		}
	}
}

// P9.1: scopes without their last parts.
func TestOuter(t *testing.T) {
	for _, row := range []struct {
		scope, want string
		is          bool
	}{
		{"", "", false},
		{"p", "", true},
		{"p.M", "p", true},
		{"p.M.N", "p.M", true},
		{".", "", true},
		{"..", ".", true},
		{".p", "", true},
		{"p.", "p", true},
		{"p..M", "p.", true},
		{"\xff.\x00", "\xff", true},
		{" ", "", true},
		{"p.\u00e4", "p", true},
		{strings.Repeat("p", 100) + ".M", strings.Repeat("p", 100), true},
	} {
		if got, is := Outer(row.scope); got != row.want || is != row.is {
			t.Errorf("Outer(%q): %q, %v, want %q, %v", row.scope, got, is, row.want, row.is)
		}
	}
	for _, scope := range allTexts("a.b", 7) {
		parts := strings.Split(scope, ".")
		want := strings.Join(parts[:len(parts)-1], ".")
		if got, is := Outer(scope); got != want || is != (scope != "") {
			t.Errorf("Outer(%q): %q, %v, want %q", scope, got, is, want)
		}
	}
}

// P9.1: messages that go as deep as the document bounds, and as deep as there may be types.
func TestDeep(t *testing.T) {
	m := syntax.Message{Name: "a"}
	for i := range 1<<16 - 1 {
		m = syntax.Message{Name: "a", Messages: []syntax.Message{m}, Line: 1<<16 - 1 - i, Col: i}
	}
	x, err := Of(syntax.File{Messages: []syntax.Message{m}})
	checkFault(t, "deep messages", x, err, lexer.Fault{Line: 41, Col: 1<<16 - 1 - 41, Err: api.ErrLong})

	deep := wide(0, 1, 0).Messages[0]
	for range 39 {
		deep = syntax.Message{Name: "a", Messages: []syntax.Message{deep}}
	}
	f := syntax.File{Messages: []syntax.Message{deep}}
	inmost := strings.Repeat("a.", 39) + "T1"
	check(t, f, []string{"", "a", "T1", "a.T1", "a.a.T1", inmost, inmost[2:], inmost[:len(inmost)-3], "." + inmost})
}

// P9.1: scopes and names of very many parts.
func TestLong(t *testing.T) {
	const many = 1 << 20
	parts := strings.Repeat("a.", many)
	x := table(t, "package a.a; message b { message c { } } message c { }")
	for _, row := range []struct{ scope, name, want string }{
		{parts + "b", "c", "a.a.c"},
		{"a.a.b." + parts, "c", "a.a.b.c"},
		{parts, "d", ""},
		{parts, parts + "b", ""},
		{strings.Repeat(".", many), "a.a.b", "a.a.b"},
		{strings.Repeat("a", many), "a.a.b", "a.a.b"},
		{"a", "." + parts, ""},
	} {
		got, is := x.Look(row.scope, row.name)
		if is != (row.want != "") || got.Full != row.want {
			t.Errorf("Look in a long scope: %v, %v, want %q", got, is, row.want)
		}
	}
	long, err := Of(syntax.File{Package: parts, Messages: []syntax.Message{{Name: "b"}, {Name: "c"}}, Enums: []syntax.Enum{{Name: parts}}})
	if err != nil {
		t.Fatal(err)
	}
	for _, name := range []string{"b", "c", parts} {
		if got, is := long.Look(parts+".b.a", name); !is || got.Full != parts+"."+name {
			t.Errorf("Look of a long package's type: %d bytes, %v", len(got.Full), is)
		}
	}
	if got, is := long.Look(parts, "a"); is || got != (Type{}) {
		t.Error("Look in a long package")
	}
}

// P9.1: a table without types has none.
func TestNone(t *testing.T) {
	for _, x := range []*Table{{}, table(t, ""), table(t, "package p;")} {
		checkLists(t, x, nil)
		checkNames(t, x, nil, []string{"", ".", "p", "p.M", ".p", "M"})
	}
}

// P9.1: places are told as they are given.
func TestPlaces(t *testing.T) {
	f := syntax.File{
		Messages: []syntax.Message{{Name: "M", Line: math.MinInt, Col: math.MaxInt}},
		Enums:    []syntax.Enum{{Name: "E", Line: -1, Col: 0}},
	}
	x, err := Of(f)
	if err != nil {
		t.Fatal(err)
	}
	checkLists(t, x, []Type{{"E", true, 0, -1, 0}, {"M", false, 0, math.MinInt, math.MaxInt}})
	f.Enums[0].Name = "M"
	x, err = Of(f)
	checkFault(t, f, x, err, lexer.Fault{Line: math.MinInt, Col: math.MaxInt, Err: api.ErrDup})
}

// within tells whether a text stands in the memory of another one.
func within(s, of string) bool {
	at, begin := uintptr(unsafe.Pointer(unsafe.StringData(s))), uintptr(unsafe.Pointer(unsafe.StringData(of)))
	return s != "" && begin <= at && at < begin+uintptr(len(of))
}

// P9.1: what is answered shares no memory with what was given, nor with another answer.
func TestApart(t *testing.T) {
	const text = "enum E { Z = 0; } message M { message N { enum F { Z = 0; } } } message O { }"
	f := file(t, text)
	x, err := Of(f)
	if err != nil {
		t.Fatal(err)
	}
	if !reflect.DeepEqual(f, file(t, text)) {
		t.Error("Of changed its file")
	}
	for _, y := range x.Types() {
		for _, of := range []string{f.Enums[0].Name, f.Messages[0].Name, f.Messages[0].Messages[0].Name, f.Messages[1].Name} {
			if within(y.Full, of) {
				t.Errorf("%q is in the file's memory", y.Full)
			}
		}
	}
	scope := "p.M"
	if rest, _ := Outer(scope); within(rest, scope) {
		t.Error("Outer's answer is in its scope's memory")
	}

	want := modelTypes(f)
	f.Messages[0].Name, f.Messages[0].Messages[0].Enums[0].Name, f.Enums[0].Line = "X", "Y", 99
	for range 2 {
		checkLists(t, x, want)
		checkNames(t, x, want, []string{"", "M", "N", "E", "M.N", "M.N.F", "X", ".O"})
		clear(x.Types())
		clear(x.Messages())
		clear(x.Enums())
		_ = append(x.Types()[:1], Type{Full: "X"})
		_ = append(x.Messages()[:1], "X")
		_ = append(x.Enums()[:1], "X")
	}
	one, two := x.Types(), x.Types()
	_ = append(one, Type{Full: "X"})
	clear(one)
	if !slices.Equal(two, want) {
		t.Error("two answers share memory")
	}
}

// ownTypes calls with each scope of a file, and with the names of its own types.
func ownTypes(f syntax.File, call func(scope string, names []string)) {
	var walk func(scope string, messages []syntax.Message, enums []syntax.Enum)
	walk = func(scope string, messages []syntax.Message, enums []syntax.Enum) {
		var names []string
		for _, e := range enums {
			names = append(names, e.Name)
		}
		for _, m := range messages {
			names = append(names, m.Name)
		}
		call(scope, names)
		for _, m := range messages {
			walk(strings.TrimPrefix(scope+"."+m.Name, "."), m.Messages, m.Enums)
		}
	}
	walk(f.Package, f.Messages, f.Enums)
}

// P9.2: what a scope's own type is called is that type; what is called as none of them is what it is in the scope around it.
func TestWithinBeforeWithout(t *testing.T) {
	own, others := 0, 0
	for seed := range uint64(3000) {
		m := maker{Rand: rand.New(rand.NewPCG(seed, 1)), names: []string{"a", "b", "c", "d", "e"}}
		f := m.file()
		x, err := Of(f)
		if err != nil {
			continue
		}
		ownTypes(f, func(scope string, names []string) {
			for _, name := range m.names {
				got, is := x.Look(scope, name)
				if slices.Contains(names, name) {
					own++
					if want := strings.TrimPrefix(scope+"."+name, "."); !is || got.Full != want {
						t.Fatalf("Look(%q, %q): %v, %v, want %q", scope, name, got, is, want)
					}
					continue
				}
				rest, inner := Outer(scope)
				if !inner {
					continue
				}
				others++
				if want, wanted := x.Look(rest, name); got != want || is != wanted {
					t.Fatalf("Look(%q, %q): %v, %v, in the scope around it: %v, %v", scope, name, got, is, want, wanted)
				}
			}
		})
	}
	if own < 5000 || others < 5000 {
		t.Errorf("%d own ones, %d others", own, others)
	}
}

// P9.2: of types of one name, at each depth, the inmost one around a scope is meant.
func TestInmost(t *testing.T) {
	const depth = 7
	for mask := range 1 << depth {
		text, end := "package p; ", ""
		for i := range depth {
			if mask>>i&1 == 1 {
				text += "message N { } "
			}
			text += "message M { "
			end += "} "
		}
		x := table(t, text+end)
		scope, want := "p", ""
		for i := range depth {
			if mask>>i&1 == 1 {
				want = scope + ".N"
			}
			if got, is := x.Look(scope, "N"); is != (want != "") || got.Full != want {
				t.Fatalf("Look(%q, N) of %s: %v, %v, want %q", scope, text, got, is, want)
			}
			scope += ".M"
		}
		if got, _ := x.Look(scope, "N"); got.Full != want {
			t.Fatalf("Look(%q, N) of %s: %v, want %q", scope, text, got, want)
		}
	}
}
