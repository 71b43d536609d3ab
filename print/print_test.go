package print

import (
	"errors"
	"math"
	"reflect"
	"runtime"
	"slices"
	"strconv"
	"strings"
	"testing"

	"redline/api"
	"redline/kinds"
	"redline/schema"
	"redline/syntax"
)

const head = "syntax = 'proto3'; "

// of is the schema of what a text declares behind its syntax: it is held against both models, and P12.2.
func of(t *testing.T, text string) schema.Schema {
	t.Helper()
	f, err := syntax.Of(head + text)
	if err != nil {
		t.Fatalf("%s: %v, %v", text, err, errors.Unwrap(err))
	}
	s := compiled(t, f)
	if got, want := Lines(s), linesOfFile(t, f); !slices.Equal(got, want) {
		t.Fatalf("Lines of %s: %q, want %q", text, got, want)
	}
	checkBack(t, s)
	return s
}

// compiled is the schema of a file, that no text may have: it is held against the model.
func compiled(t *testing.T, f syntax.File) schema.Schema {
	t.Helper()
	s, err := schema.Compile(f)
	if err != nil {
		t.Fatalf("Compile(%v): %v, %v", f, err, errors.Unwrap(err))
	}
	check(t, s)
	return s
}

// tells holds the lines of a schema, and its text, against those that are written out behind the syntax.
func tells(t *testing.T, s schema.Schema, behind ...string) {
	t.Helper()
	want := append([]string{`syntax = "proto3";`}, behind...)
	if got := Lines(s); !slices.Equal(got, want) {
		t.Errorf("Lines(%v):\n%s\nwant:\n%s", s, strings.Join(got, "\n"), strings.Join(want, "\n"))
	}
	var text string
	for _, line := range want {
		text += line + "\n"
	}
	if got, err := Text(s); got != text || err != nil {
		t.Errorf("Text(%v): %q, %v, want %q", s, got, err, text)
	}
}

// P12.1, P12.2: lines that are written out.
func TestLines(t *testing.T) {
	for _, row := range []struct {
		text string
		want []string
	}{
		{"", nil},
		{"package p.q;", nil}, // no type tells it
		{"message A { int32 x = 1; }", []string{
			"message A {",
			"  int32 x = 1;",
			"}",
		}},
		{";; message /* no fields */ A { ; }", []string{"message A {", "}"}},
		{"message B { } enum E { Z = 0; } message A { } enum D { Y = 0; }", []string{
			"enum E {", "  Z = 0;", "}",
			"enum D {", "  Y = 0;", "}",
			"message B {", "}",
			"message A {", "}",
		}},
		{"enum E { Z = 0x0; C = 2147483647; B = -2147483647; A = 010; D = -1; }", []string{
			"enum E {",
			"  Z = 0;",
			"  C = 2147483647;",
			"  B = -2147483647;",
			"  A = 8;",
			"  D = -1;",
			"}",
		}},
		{"package p; enum E { Z = 0; }", []string{"package p;", "enum E {", "  Z = 0;", "}"}},
		{"package a.b.c; message M { message N { } }", []string{
			"package a.b.c;",
			"message M {",
			"  message N {",
			"  }",
			"}",
		}},
		{"package p; message M { enum E { Z = 0; } }", []string{
			"package p;",
			"message M {",
			"  enum E {",
			"    Z = 0;",
			"  }",
			"}",
		}},
		{"message A { optional bytes d = 536870911; string c = 0x10; repeated string b = 15; repeated A a = 2; }", []string{
			"message A {",
			"  repeated .A a = 2;",
			"  repeated string b = 15;",
			"  string c = 16;",
			"  optional bytes d = 536870911;",
			"}",
		}},
		{"message A { repeated bool a = 1; repeated bool b = 2 [packed = true]; repeated bool c = 3 [packed = false]; repeated E d = 4 [packed = false]; repeated E e = 5; } enum E { Z = 0; }", []string{
			"enum E {", "  Z = 0;", "}",
			"message A {",
			"  repeated bool a = 1;",
			"  repeated bool b = 2;",
			"  repeated bool c = 3 [packed = false];",
			"  repeated .E d = 4 [packed = false];",
			"  repeated .E e = 5;",
			"}",
		}},
		{"message A { map<bool, A> e = 5; map<string, E> d = 4; map<sfixed64, double> c = 3; map<int32, bytes> b = 2; } enum E { Z = 0; }", []string{
			"enum E {", "  Z = 0;", "}",
			"message A {",
			"  map<int32, bytes> b = 2;",
			"  map<sfixed64, double> c = 3;",
			"  map<string, .E> d = 4;",
			"  map<bool, .A> e = 5;",
			"}",
		}},
		{"message A { repeated B b = 9 [key = k]; repeated A c = 3 [key = z]; uint64 z = 300; uint64 y = 299; } message B { string id = 1; E k = 300; } enum E { Z = 0; }", []string{
			"enum E {", "  Z = 0;", "}",
			"message A {",
			"  repeated .A c = 3 [key = z];",
			"  repeated .B b = 9 [key = k];",
			"  uint64 y = 299;",
			"  uint64 z = 300;",
			"}",
			"message B {",
			"  string id = 1;",
			"  .E k = 300;",
			"}",
		}},
		{"message A { oneof z { int32 e = 5; A a = 1; } int32 f = 6; oneof b { string c = 3; } optional int32 d = 4; message N { } enum E { Z = 0; } reserved 7, 8 to max; reserved 'x'; }", []string{
			"message A {",
			"  optional int32 d = 4;",
			"  int32 f = 6;",
			"  oneof z {",
			"    .A a = 1;",
			"    int32 e = 5;",
			"  }",
			"  oneof b {",
			"    string c = 3;",
			"  }",
			"  enum E {",
			"    Z = 0;",
			"  }",
			"  message N {",
			"  }",
			"}",
		}},
		{"package p; message A { message C { message D { D d = 1; oneof o { C c = 2; } } enum H { z = 0; } } message B { E e = 1; .p.F f = 2; } enum E { z = 0; } enum D { z = 0; } } enum F { z = 0; }", []string{
			"package p;",
			"enum F {", "  z = 0;", "}",
			"message A {",
			"  enum E {", "    z = 0;", "  }",
			"  enum D {", "    z = 0;", "  }",
			"  message C {",
			"    enum H {", "      z = 0;", "    }",
			"    message D {",
			"      .p.A.C.D d = 1;",
			"      oneof o {",
			"        .p.A.C c = 2;",
			"      }",
			"    }",
			"  }",
			"  message B {",
			"    .p.A.E e = 1;",
			"    .p.F f = 2;",
			"  }",
			"}",
		}},
		// Words of the grammar are names, too.
		{"package message; message repeated { map map = 1; optional optional oneof = 2; repeated .message.repeated int32 = 3 [key = key]; int32 key = 4; oneof reserved { repeated message = 5; } message optional { } } enum int32 { true = 0; to = 1; } message map { .message.int32 packed = 1; }", []string{
			"package message;",
			"enum int32 {", "  true = 0;", "  to = 1;", "}",
			"message repeated {",
			"  .message.map map = 1;",
			"  optional .message.repeated.optional oneof = 2;",
			"  repeated .message.repeated int32 = 3 [key = key];",
			"  int32 key = 4;",
			"  oneof reserved {",
			"    .message.repeated message = 5;",
			"  }",
			"  message optional {",
			"  }",
			"}",
			"message map {",
			"  .message.int32 packed = 1;",
			"}",
		}},
		// A name that is the package's, and one name at each depth.
		{"package p; message p { message p { p p = 1; .p.p q = 2; } } message q { p.p p = 1; }", []string{
			"package p;",
			"message p {",
			"  message p {",
			"    .p.p.p p = 1;",
			"    .p.p q = 2;",
			"  }",
			"}",
			"message q {",
			"  .p.p.p p = 1;",
			"}",
		}},
	} {
		tells(t, of(t, row.text), row.want...)
	}
	tells(t, schema.Schema{})
}

// deep is so many messages within one another, each with an enum and a oneof.
func deep(many int) string {
	if many == 0 {
		return ""
	}
	return "message A { A a = 1; oneof o { E e = 2; } enum E { Z = 0; } " + deep(many-1) + "} "
}

// P12.1, P12.2: as many messages within one another as a text may have.
func TestDeep(t *testing.T) {
	s := of(t, "package p; "+deep(8))
	lines := Lines(s)
	for i, line := range []string{
		`syntax = "proto3";`, "package p;",
		"message A {", "  .p.A.A a = 1;", "  oneof o {", "    .p.A.E e = 2;", "  }", "  enum E {", "    Z = 0;", "  }",
		"  message A {", "    .p.A.A.A a = 1;", "    oneof o {", "      .p.A.A.E e = 2;", "    }", "    enum E {", "      Z = 0;", "    }",
		"    message A {",
	} {
		if lines[i] != line {
			t.Errorf("line %d: %q, want %q", i+1, lines[i], line)
		}
	}
	ahead := strings.Repeat("  ", 7)
	inmost := []string{"message A {", "  .p.A.A.A.A.A.A.A.A a = 1;", "  oneof o {", "    .p.A.A.A.A.A.A.A.A.E e = 2;", "  }", "  enum E {", "    Z = 0;", "  }", "}"}
	at := slices.Index(lines, ahead+"message A {")
	for i, line := range inmost {
		if lines[at+i] != ahead+line {
			t.Errorf("line %d: %q, want %q", at+i+1, lines[at+i], ahead+line)
		}
	}
	for i := range 8 {
		if line := lines[len(lines)-1-i]; line != strings.Repeat("  ", i)+"}" {
			t.Errorf("line %d from the end: %q", i+1, line)
		}
	}
}

// P12.1: the text of each kind's type, with each label.
func TestType(t *testing.T) {
	names := map[int]string{
		kinds.Double: "double", kinds.Float: "float", kinds.Int32: "int32", kinds.Int64: "int64", kinds.Uint32: "uint32", kinds.Uint64: "uint64",
		kinds.Sint32: "sint32", kinds.Sint64: "sint64", kinds.Fixed32: "fixed32", kinds.Fixed64: "fixed64", kinds.Sfixed32: "sfixed32", kinds.Sfixed64: "sfixed64",
		kinds.Bool: "bool", kinds.String: "string", kinds.Bytes: "bytes", kinds.Enum: ".p.q.M.E", kinds.Message: ".p.q.N",
	}
	for kind := kinds.Double; kind <= kinds.Message; kind++ {
		name := names[kind]
		for _, row := range []struct{ field, want, line string }{
			{name + " x = 7;", name, name + " x = 7;"},
			{"optional " + name + " x = 7;", name, "optional " + name + " x = 7;"},
			{"repeated " + name + " x = 7;", name, "repeated " + name + " x = 7;"},
			{"oneof o { " + name + " x = 7; }", name, "  " + name + " x = 7;"},
		} {
			s := of(t, "package p.q; enum D { Z = 0; } message M { "+row.field+" enum E { Z = 0; } } message N { }")
			f, _ := s.Field(0, 7)
			if got := Type(s, f); got != row.want || f.Kind != kind {
				t.Errorf("Type of %s: %q, want %q", row.field, got, row.want)
			}
			if !slices.Contains(Lines(s), "  "+row.line) {
				t.Errorf("no line %s: %q", row.line, Lines(s))
			}
		}
		for key := kinds.Int32; key <= kinds.String; key++ {
			s := of(t, "package p.q; enum D { Z = 0; } message M { map<"+names[key]+","+name+">x=7; enum E { Z = 0; } } message N { }")
			f, _ := s.Field(0, 7)
			want := "map<" + names[key] + ", " + name + ">"
			if got := Type(s, f); got != want || f.Kind != kind || f.MapKey != key {
				t.Errorf("Type: %q, want %q", got, want)
			}
			if !slices.Contains(Lines(s), "  "+want+" x = 7;") {
				t.Errorf("no line of %s: %q", want, Lines(s))
			}
		}
	}
}

// P12.1: packed is told of repeated numbers alone, and only where they aren't.
func TestPacked(t *testing.T) {
	for kind := kinds.Double; kind <= kinds.Enum; kind++ {
		name := kinds.Name(kind)
		if kind == kinds.Enum {
			name = "E"
		}
		for _, row := range []struct {
			field  string
			packed bool
			behind string
		}{
			{"repeated " + name + " x = 1;", true, ""},
			{"repeated " + name + " x = 1 [packed = true];", true, ""},
			{"repeated " + name + " x = 1 [packed = false];", false, " [packed = false]"},
			{name + " x = 1;", false, ""},
			{"optional " + name + " x = 1;", false, ""},
			{"map<bool, " + name + "> x = 1;", false, ""},
		} {
			if kind == kinds.String || kind == kinds.Bytes {
				if strings.Contains(row.field, "packed") {
					continue
				}
				row.packed = false
			}
			s := of(t, "enum E { Z = 0; } message M { "+row.field+" }")
			line := Lines(s)[5]
			if _, behind, _ := strings.Cut(line, "x = 1"); behind != row.behind+";" || s.Messages[0].Fields[0].Packed != row.packed {
				t.Errorf("%s: %q", row.field, line)
			}
		}
	}
}

// P12.1: homes that are written out.
func TestHome(t *testing.T) {
	s := of(t, "package p.q; message A { message A { message C { } enum E { Z = 0; } } message B { } } enum F { Z = 0; } message AB { message B { } } message p { message q { } }")
	for _, row := range []struct {
		full string
		want int
	}{
		{"p.q.A", -1}, {"p.q.F", -1}, {"p.q.AB", -1}, {"p.q.p", -1},
		{"p.q.A.A", 0}, {"p.q.A.A.C", 1}, {"p.q.A.A.E", 1}, {"p.q.A.B", 0}, {"p.q.AB.B", 4}, {"p.q.p.q", 6},
		// No type has these names, but whatever stands behind the point is a text.
		{"p.q.A.", 0}, {"p.q.A.X", 0}, {"p.q.A.\n", 0}, {"p.q.A.A.", 1}, {"p.q.p.q.x", 7}, {"p.q.A. B", 0},
		{"p.q.A..", -1}, {"p.q.A..B", -1}, {"p.q.A.X.Y", -1}, {"p.q.F.Z", -1}, {"p.q.F.", -1}, {"p.q.", -1}, {"p.q", -1}, {"p.", -1}, {"p", -1},
		{"", -1}, {".", -1}, {"..", -1}, {"A", -1}, {"A.A", -1}, {".p.q.A.A", -1}, {"p.q.a.A", -1}, {"q.A.A", -1}, {"p.q.A.B.", 3}, {"p.q.AB", -1}, {"p.q.A,B", -1},
	} {
		if got := Home(s, row.full); got != row.want || modelHome(s, row.full) != row.want {
			t.Errorf("Home(%q): %d, want %d", row.full, got, row.want)
		}
	}
	for _, full := range []string{"", ".", "A", "A.B"} {
		if got := Home(schema.Schema{}, full); got != -1 {
			t.Errorf("Home(%q) of no type: %d", full, got)
		}
	}
	// The first message is a home by its number, and an enum is none.
	s = compiled(t, syntax.File{Messages: []syntax.Message{{}, {Name: "A."}}, Enums: []syntax.Enum{{Name: "A", Values: []syntax.Value{{}}}}})
	for full, want := range map[string]int{"": -1, ".": 0, ".A": 0, "A.": -1, "A..": 1, "A..A": 1, "A.A": -1, "..": -1} {
		if got := Home(s, full); got != want {
			t.Errorf("Home(%q): %d, want %d", full, got, want)
		}
	}
}

// P12.1: all small names of types, and all small texts, against the model.
func TestHomesOfSmallNames(t *testing.T) {
	texts := []string{""}
	for at := 0; len(texts[at]) < 4; at++ {
		for _, more := range []string{"a", "b", "."} {
			texts = append(texts, texts[at]+more)
		}
	}
	for i, one := range texts[:13] {
		for _, two := range texts[:i] {
			s := compiled(t, syntax.File{
				Messages: []syntax.Message{{Name: one}, {Name: two}, {Name: "a.a.a"}},
				Enums:    []syntax.Enum{{Name: "a.bb", Values: []syntax.Value{{}}}},
			})
			for _, full := range texts {
				if got, want := Home(s, full), modelHome(s, full); got != want {
					t.Fatalf("Home(%q) of %q and %q: %d, want %d", full, one, two, got, want)
				}
			}
		}
	}
}

// P12.1: the package is told by the first enum without a home, or else by the first message without one.
func TestPackage(t *testing.T) {
	zero := []syntax.Value{{Name: "Z"}}
	for _, row := range []struct {
		file syntax.File
		want []string
	}{
		{syntax.File{Package: "p"}, nil},
		{syntax.File{Package: "p", Enums: []syntax.Enum{{Name: "q.E", Values: zero}}}, []string{"package p.q;", "enum E {", "  Z = 0;", "}"}},
		// The enum's, not the message's: nothing, as there is no point.
		{syntax.File{Enums: []syntax.Enum{{Name: "E", Values: zero}}, Messages: []syntax.Message{{Name: "p.M"}}},
			[]string{"enum E {", "  Z = 0;", "}", "message M {", "}"}},
		// The first enum has a home, the second one has none.
		{syntax.File{Enums: []syntax.Enum{{Name: "M.E", Values: zero}, {Name: "p.q.F", Values: zero}}, Messages: []syntax.Message{{Name: "M"}}},
			[]string{"package p.q;", "enum F {", "  Z = 0;", "}", "message M {", "  enum E {", "    Z = 0;", "  }", "}"}},
		// All enums have a home, and so has the first message.
		{syntax.File{Enums: []syntax.Enum{{Name: "p.M.E", Values: zero}}, Messages: []syntax.Message{{Name: "p.M.N"}, {Name: "p.M"}, {Name: "M"}}},
			[]string{"package p;", "message M {", "  enum E {", "    Z = 0;", "  }", "  message N {", "  }", "}", "message M {", "}"}},
		// A package whose text ends with a point, or is one.
		{syntax.File{Package: "p.", Messages: []syntax.Message{{Name: "M"}}}, []string{"package p.;", "message M {", "}"}},
		{syntax.File{Package: ".", Messages: []syntax.Message{{Name: ""}}}, []string{"package .;", "message  {", "}"}},
		// All ahead of the last point is nothing.
		{syntax.File{Messages: []syntax.Message{{Name: ".M"}}}, []string{"message M {", "}"}},
		{syntax.File{Messages: []syntax.Message{{Name: ""}, {Name: ".M"}}}, []string{"message  {", "  message M {", "  }", "}"}},
	} {
		tells(t, compiled(t, row.file), row.want...)
	}
}

// P12.1: what no text has is told as it stands.
func TestOddParts(t *testing.T) {
	s := compiled(t, syntax.File{
		Enums: []syntax.Enum{{Name: "E\n", Values: []syntax.Value{{Name: ""}, {Name: "x y", Number: math.MinInt}, {Name: "\xff", Number: math.MaxInt}}}},
		Messages: []syntax.Message{{Name: "M", Oneofs: []string{"none", "", "two"}, Fields: []syntax.Field{
			{Name: "f", Number: 6, Type: "M", Label: 3, Key: "."},
			{Name: "e", Number: 5, Type: "E\n", Label: 0, Oneof: 3},
			{Name: "d", Number: 4, Type: "bool", Label: 3, Packed: 2, Oneof: 3},
			{Name: "c", Number: 3, Type: "M", Label: 4, MapKey: "bool", Oneof: 2},
			{Name: "g h", Number: 2, Type: "bool", Label: 5},
			{Name: ".", Number: 1, Type: "string", Label: 1},
		}}},
	})
	tells(t, s,
		"enum E\n {", "   = 0;", "  x y = -9223372036854775808;", "  \xff = 9223372036854775807;", "}",
		"message M {",
		"  string . = 1;",
		"  bool g h = 2;",
		"  repeated .M f = 6 [key = .];",
		"  oneof none {",
		"  }",
		"  oneof  {",
		"    map<bool, .M> c = 3;",
		"  }",
		"  oneof two {",
		"    repeated bool d = 4 [packed = false];",
		"    .E\n e = 5;",
		"  }",
		"}",
	)
}

// sized is a schema whose text has so many bytes.
func sized(t *testing.T, bytes int) schema.Schema {
	t.Helper()
	const least = len("syntax = \"proto3\";\n") + 3*len("message M {\n}\n")
	const line = len("  string  = 1000;\n")
	many := (bytes - least + line + 39) / (line + 40)
	left := bytes - least - many*line // of the names
	var texts [3]string
	for i := range many {
		size := left / (many - i)
		left -= size
		name := "f" + strconv.Itoa(i)
		texts[i%3] += "string " + name + strings.Repeat("x", size-len(name)) + "=" + strconv.Itoa(1000+i) + ";"
	}
	return of(t, "message M{"+texts[0]+"}message N{"+texts[1]+"}message O{"+texts[2]+"}")
}

// P12.1, P12.2: texts of as many bytes as there may be, and of one more.
func TestTextsLength(t *testing.T) {
	for _, bytes := range []int{3000, 3999, 4000} {
		text, err := Text(sized(t, bytes))
		if len(text) != bytes || err != nil {
			t.Errorf("a text of %d bytes: %d, %v", bytes, len(text), err)
		}
	}
	for _, bytes := range []int{4001, 4002, 4003, 4100} {
		s := sized(t, bytes)
		text, err := Text(s)
		if text != "" || !errors.Is(err, api.ErrLong) {
			t.Errorf("a text of %d bytes: %d, %v", bytes, len(text), err)
		}
		if got := strings.Join(Lines(s), "\n") + "\n"; len(got) != bytes {
			t.Errorf("lines of %d bytes: %d", bytes, len(got))
		}
	}
	// A line that is short enough behind one that is too long doesn't count.
	s := compiled(t, syntax.File{Messages: []syntax.Message{{Name: strings.Repeat("m", 4000), Fields: []syntax.Field{{Name: "x", Number: 1, Type: "bool"}}}}})
	if text, err := Text(s); text != "" || !errors.Is(err, api.ErrLong) {
		t.Errorf("a long name: %q, %v", text, err)
	}
}

// P12.1: a text that is too long isn't put together first.
func TestLongNames(t *testing.T) {
	name := strings.Repeat("n", 1<<17)
	f := syntax.File{Messages: []syntax.Message{{Name: name}}}
	for i := range 39 {
		m := syntax.Message{Name: strconv.Itoa(i)}
		for j := range 40 {
			m.Fields = append(m.Fields, syntax.Field{Name: strconv.Itoa(j), Number: j + 1, Label: 1, Type: "." + name})
		}
		f.Messages = append(f.Messages, m)
	}
	s, err := schema.Compile(f)
	if err != nil {
		t.Fatal(err)
	}
	var ahead, behind runtime.MemStats
	runtime.ReadMemStats(&ahead)
	text, err := Text(s)
	runtime.ReadMemStats(&behind)
	if text != "" || !errors.Is(err, api.ErrLong) {
		t.Errorf("%d bytes, %v", len(text), err)
	}
	if took := behind.TotalAlloc - ahead.TotalAlloc; took > 1<<24 {
		t.Errorf("the text took %d bytes", took)
	}
	if got := Type(s, s.Messages[1].Fields[0]); got != "."+name {
		t.Errorf("a type of %d bytes", len(got))
	}
}

// P12.1: many oneofs, and many types.
func TestMany(t *testing.T) {
	x := syntax.Message{Name: "A"}
	for i := range 100000 {
		x.Oneofs = append(x.Oneofs, "o"+strconv.Itoa(i))
	}
	x.Fields = []syntax.Field{{Name: "x", Number: 1, Type: "A", Label: 1, Oneof: 99999}}
	s, err := schema.Compile(syntax.File{Messages: []syntax.Message{x}})
	if err != nil {
		t.Fatal(err)
	}
	lines := Lines(s)
	if len(lines) != 1+2+2*100000+1 || lines[2+2*99998] != "  oneof o99998 {" || lines[2+2*99998+1] != "    .A x = 1;" || lines[len(lines)-2] != "  }" {
		t.Errorf("%d lines, %q", len(lines), lines[len(lines)-6:])
	}
	if text, err := Text(s); text != "" || !errors.Is(err, api.ErrLong) {
		t.Errorf("%d bytes, %v", len(text), err)
	}

	inner := syntax.Message{Name: "a", Fields: []syntax.Field{{Name: "x", Number: 1, Label: 1, Type: "a"}}}
	for range 39 {
		inner = syntax.Message{Name: "a", Messages: []syntax.Message{inner}}
	}
	s = compiled(t, syntax.File{Package: "p", Messages: []syntax.Message{inner}})
	lines = Lines(s)
	if len(lines) != 2+2*40+1 || lines[42] != strings.Repeat("  ", 40)+".p"+strings.Repeat(".a", 40)+" x = 1;" {
		t.Errorf("%d lines, %q", len(lines), lines[40:44])
	}
}

// P12.1: what wasn't compiled, and what is another schema's, isn't asked, but no call panics on it.
func TestOthers(t *testing.T) {
	numbers := []int{math.MinInt, -1, 0, 1, 2, 3, 4, 5, 16, 17, 18, math.MaxInt}
	for _, label := range numbers {
		for _, kind := range numbers {
			for _, number := range numbers {
				f := schema.Field{Name: "x", Number: number, Label: label, Kind: kind, Type: number, Key: number, MapKey: kind, Oneof: label}
				s := schema.Schema{
					Messages: []schema.Message{{Name: "A", Fields: []schema.Field{f, f}, Oneofs: []string{"o", "o"}}, {Name: "A.B"}, {Name: "A"}, {Name: "A.B"}, {Name: "A.B.A"}},
					Enums:    []schema.Enum{{Name: "A", Names: []string{"Z"}}, {Name: "A", Numbers: []int{0}}, {Name: "A.B"}},
				}
				for _, x := range []schema.Schema{s, {}, {Messages: []schema.Message{{}, {}}, Enums: []schema.Enum{{}}}} {
					Lines(x)
					Text(x)
					Type(x, f)
					Home(x, "A.B")
				}
			}
		}
	}
}

// P12.1: no call changes a schema, or the room behind its lists, and an answer is the caller's.
func TestApart(t *testing.T) {
	const text = "package p; message A { oneof o { int32 x = 2; } repeated A y = 1 [key = z]; string z = 3; enum D { a = 0; } } enum E { a = 0; b = 1; } message B { }"
	room := func(s schema.Schema) schema.Schema {
		// Behind each list stands what nobody asks for.
		s.Messages = append(slices.Clone(s.Messages), schema.Message{Name: "rest"})[:len(s.Messages)]
		s.Enums = append(slices.Clone(s.Enums), schema.Enum{Name: "rest"})[:len(s.Enums)]
		m := &s.Messages[0]
		m.Fields = append(slices.Clone(m.Fields), schema.Field{Name: "rest"})[:len(m.Fields)]
		m.Oneofs = append(slices.Clone(m.Oneofs), "rest")[:len(m.Oneofs)]
		return s
	}
	s, want := room(of(t, text)), of(t, text)
	lines := Lines(s)
	told, _ := Text(s)
	for range 2 {
		again := Lines(s)
		if !slices.Equal(again, lines) {
			t.Fatalf("Lines: %q, ahead %q", again, lines)
		}
		clear(again)
		_ = append(again[:1], "rest")
		if again, _ := Text(s); again != told {
			t.Fatalf("Text: %q, ahead %q", again, told)
		}
		for _, f := range s.Messages[0].Fields {
			Type(s, f)
		}
		Home(s, "p.A.D")
	}
	if !reflect.DeepEqual(s, want) {
		t.Errorf("%v, want %v", s, want)
	}
	m := s.Messages[0]
	if s.Messages[:3][2].Name != "rest" || s.Enums[:3][2].Name != "rest" || m.Fields[:4][3].Name != "rest" || m.Oneofs[:2][1] != "rest" {
		t.Error("the room behind a list changed")
	}
}

// P12.2: whatever a text tells in its own way is told so that it is compiled to the same schema.
func TestBack(t *testing.T) {
	for _, text := range []string{
		"",
		";;;",
		"package\n p . q ; // without types",
		"message A{}enum E{A=0;}",
		"message A { reserved 1 to 5, 9; reserved 'x', \"y\"; int32 z = 0x6; repeated int32 w = 07 [ packed = true ]; }",
		"package p; message A { p.A a = 3; .p.A b = 1; A c = 2; A.B d = 4; B e = 5; message B { B b = 1; A a = 2; } }",
		"package p; message p { message p { p p = 1; } p p = 1; .p.p q = 2; }",
		"package p; enum F { X = 0; } message M { enum F { Y = 0; } F a = 1; .p.F b = 2; map<int32, F> c = 3; map<int32, .p.F> d = 4; repeated F e = 5 [packed = false]; }",
		"message A { message A { message A { A a = 1; .A b = 2; .A.A c = 3; .A.A.A d = 4; } A a = 1; } A a = 1; }",
		"message A { oneof b { int32 c = 9; } oneof a { int32 d = 1; int32 e = 10; } int32 f = 5; }",
		"message A { repeated B x = 1 [key = b]; repeated B y = 2 [key = a]; repeated B z = 3; } message B { sint64 a = 2; string b = 1; }",
		"message int32 { int32 a = 1; .int32 b = 2; } enum double { Z = 0; } message M { .double a = 1; double b = 2; }",
		"message M { } enum E { Z = 0; A = -2147483647; B = 2147483647; }",
	} {
		s := of(t, text)
		printed, err := Text(s)
		back, bad := schema.Of(printed)
		if err != nil || bad != nil || !schema.Same(back, s) {
			t.Errorf("%s: %v\n%s", text, err, printed)
		}
	}
	// As many types, fields and values as there may be.
	var text strings.Builder
	for i := range 20 {
		text.WriteString("enum E" + strconv.Itoa(i) + "{Z=0;}message M" + strconv.Itoa(i) + "{M19 m=2;E0 e=1;}")
	}
	if !checkBack(t, of(t, text.String())) {
		t.Error("40 types have no text")
	}
	text.Reset()
	text.WriteString("enum E{V=0;")
	for i := range 39 {
		text.WriteString("V" + strconv.Itoa(i) + "=" + strconv.Itoa(39-i) + ";")
	}
	text.WriteString("}message M{")
	for i := range 40 {
		text.WriteString("repeated M f" + strconv.Itoa(i) + "=" + strconv.Itoa(40-i) + ";")
	}
	text.WriteString("}")
	if !checkBack(t, of(t, text.String())) {
		t.Error("40 fields and values have no text")
	}
}
