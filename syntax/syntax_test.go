package syntax

import (
	"math"
	"reflect"
	"slices"
	"strings"
	"testing"
	"unsafe"

	"redline/api"
	"redline/lexer"
)

// rich has all that the grammar has.
const rich = `syntax = "proto3"; package p.q1;;
message A {
	int32 a = 1; repeated .p.B b = 0x10 [packed = true, key = k]; optional q.C c = 3 [key = id];
	map<string, .A.B> m = 4 [packed = false]; ;
	oneof o { ; repeated r = 5; message.map s = 6 [key = a, packed = false]; ; }
	message B { enum E { Z = 0; } message C { } reserved 7; }
	enum F { ; X = 0; Y = -1; ; }
	reserved 1, 2 to 3, 4 to max; reserved 'x', "y";
}
enum G { N = 0; } message D { }`

// tokens is a text's, each with a place of its own that has to do with no text.
func tokens(t *testing.T, text string) []lexer.Token {
	t.Helper()
	list, err := lexer.Split(text)
	if err != nil {
		t.Fatalf("Split(%s): %v", text, err)
	}
	return placed(list)
}

func placed(list []lexer.Token) []lexer.Token {
	for i := range list {
		list[i].Line, list[i].Col = i+100, 1000-7*i
	}
	return list
}

// alphabet has one token of each text that means something, and of each kind.
func alphabet(t *testing.T) []lexer.Token {
	return append(tokens(t, `syntax package message enum oneof reserved repeated optional map packed key true false to max a
		0 17 "proto3" "message" ";" "" = ; . { } < > , [ ] - ( )`), lexer.Token{Kind: lexer.Word})
}

// chance answers numbers that look like chance, the same ones each time.
func chance(seed uint64) func(below int) int {
	return func(below int) int {
		seed = seed*6364136223846793005 + 1442695040888963407
		return int((seed >> 33) % uint64(below))
	}
}

// P8.1: right tokens, cut at each place, and with each token put in, or put in place of another one, there.
func TestEachPlace(t *testing.T) {
	list := tokens(t, rich)
	if !check(t, list) {
		t.Fatal("it is right")
	}
	for at := range len(list) + 1 {
		check(t, list[:at])
		for _, x := range alphabet(t) {
			check(t, placed(slices.Concat(list[:at], []lexer.Token{x})))
			check(t, placed(slices.Concat(list[:at], []lexer.Token{x}, list[at:])))
			if at < len(list) {
				check(t, placed(slices.Concat(list[:at], []lexer.Token{x}, list[at+1:])))
			}
		}
		for end := at + 1; end <= min(at+12, len(list)); end++ {
			check(t, placed(slices.Concat(list[:at], list[end:])))
			check(t, placed(slices.Concat(list[:end], list[at:])))
		}
	}
}

// P8.1: all short rows of tokens behind beginnings of all kinds.
func TestShortRows(t *testing.T) {
	all := alphabet(t)
	for _, row := range []struct {
		text string
		size int
	}{
		{"", 2},
		{"syntax", 2},
		{"syntax = 'proto3';", 3},
		{"syntax = 'proto3'; package a", 2},
		{"syntax = 'proto3'; package a;", 2},
		{"syntax = 'proto3'; message A {", 3},
		{"syntax = 'proto3'; message A { repeated", 2},
		{"syntax = 'proto3'; message A { optional", 2},
		{"syntax = 'proto3'; message A { map", 3},
		{"syntax = 'proto3'; message A { map<a", 3},
		{"syntax = 'proto3'; message A { a a = 1", 3},
		{"syntax = 'proto3'; message A { a a = 1 [", 3},
		{"syntax = 'proto3'; message A { a a = 1 [key = a", 3},
		{"syntax = 'proto3'; message A { a a = 1 [packed = true,", 3},
		{"syntax = 'proto3'; message A { a a = 1 [packed = false, key = a", 3},
		{"syntax = 'proto3'; message A { oneof a {", 3},
		{"syntax = 'proto3'; message A { oneof a { a a = 1;", 3},
		{"syntax = 'proto3'; message A { reserved", 3},
		{"syntax = 'proto3'; message A { reserved 1", 3},
		{"syntax = 'proto3'; message A { reserved 'a'", 3},
		{"syntax = 'proto3'; message A { enum a {", 3},
		{"syntax = 'proto3'; enum A { a =", 3},
		{"syntax = 'proto3'; enum A { a = 0;", 3},
	} {
		var walk func(list []lexer.Token, more int)
		walk = func(list []lexer.Token, more int) {
			right := check(t, placed(list))
			_, err := Parse(list)
			// Nothing fits behind a token that doesn't.
			if line, _, _ := lexer.Where(err); more == 0 || !right && line != 0 {
				return
			}
			for _, x := range all {
				walk(slices.Concat(list, []lexer.Token{x}), more-1)
			}
		}
		walk(tokens(t, row.text), row.size)
	}
}

// maker makes right files, piece by piece.
type maker struct {
	next   func(below int) int
	pieces []string
}

func (m *maker) add(pieces ...string) { m.pieces = append(m.pieces, pieces...) }

func (m *maker) pick(of ...string) { m.add(of[m.next(len(of))]) }

func (m *maker) name() {
	m.pick("a", "B1", "_", "message", "map", "repeated", "max", "to", "key", "packed", "true", "syntax", "int32", strings.Repeat("x", 40))
}

func (m *maker) number() { m.pick("0", "1", "017", "0x1F", "536870911", "2147483647") }

func (m *maker) dotted() {
	m.name()
	for m.next(3) == 0 {
		m.add(".")
		m.name()
	}
}

func (m *maker) typeName() {
	if m.next(3) == 0 {
		m.add(".")
	}
	m.dotted()
}

func (m *maker) rest() {
	m.name()
	m.add("=")
	m.number()
	options := [][]string{{"packed", "=", "true"}, {"packed", "=", "false"}, {"key", "=", "a"}, {"key", "=", "key"}}
	switch m.next(4) {
	case 0:
		m.add("[")
		m.add(options[m.next(4)]...)
		m.add("]")
	case 1:
		first := m.next(4)
		m.add("[")
		m.add(options[first]...)
		m.add(",")
		m.add(options[(first/2*2+2)%4+m.next(2)]...)
		m.add("]")
	}
	m.add(";")
}

// parts makes so many parts, and semicolons.
func (m *maker) parts(least int, part func()) {
	m.add("{")
	for parts := 0; parts < least || m.next(4) > 0; {
		if m.next(6) == 0 {
			m.add(";")
			continue
		}
		part()
		parts++
	}
	m.add("}")
}

func (m *maker) message(within int) {
	m.add("message")
	m.name()
	m.parts(0, func() {
		switch kind := m.next(9); {
		case kind == 0 && within < 7:
			m.message(within + 1)
		case kind == 1:
			m.enum()
		case kind == 2:
			m.add("oneof")
			m.name()
			m.parts(1, func() { m.typeName(); m.rest() })
		case kind == 3:
			m.reserved()
		case kind == 4:
			m.add("map", "<")
			m.name()
			m.add(",")
			m.typeName()
			m.add(">")
			m.rest()
		case kind == 5:
			m.pick("int32", ".", "map", "a")
			m.dotted()
			m.rest()
		default:
			m.pick("repeated", "optional")
			m.typeName()
			m.rest()
		}
	})
}

func (m *maker) reserved() {
	m.add("reserved")
	texts := m.next(2) == 0
	for {
		if texts {
			m.pick("'a'", `"b c"`, `""`, `"max"`)
		} else {
			m.number()
			if m.next(2) == 0 {
				m.add("to")
				m.pick("max", "7", "0")
			}
		}
		if m.next(2) == 0 {
			break
		}
		m.add(",")
	}
	m.add(";")
}

func (m *maker) enum() {
	m.add("enum")
	m.name()
	m.parts(1, func() {
		m.name()
		m.add("=")
		if m.next(3) == 0 {
			m.add("-")
		}
		m.number()
		m.add(";")
	})
}

func (m *maker) file() {
	m.add("syntax", "=")
	m.pick(`"proto3"`, "'proto3'")
	m.add(";")
	if m.next(2) == 0 {
		m.add("package")
		m.dotted()
		m.add(";")
	}
	for range m.next(5) {
		switch m.next(4) {
		case 0:
			m.add(";")
		case 1:
			m.enum()
		default:
			m.message(0)
		}
	}
}

// made is the pieces of a file that are short enough for a text.
func made(next func(below int) int) []string {
	m := maker{next: next}
	m.file()
	if len(strings.Join(m.pieces, " ")) > 2000 {
		return made(next)
	}
	return m.pieces
}

// changed is tokens of which a few are dropped, doubled, put in, or taken for one another.
func changed(next func(below int) int, list, out []lexer.Token) []lexer.Token {
	list = slices.Clone(list)
	for range 1 + next(3) {
		at := next(len(list))
		x := out[next(len(out))]
		switch next(5) {
		case 0:
			list = slices.Delete(list, at, at+1)
		case 1:
			list = slices.Insert(list, at, x)
		case 2:
			list[at] = x
		case 3:
			list = slices.Insert(list, at, list[next(len(list))])
		case 4:
			other := next(len(list))
			list[at], list[other] = list[other], list[at]
		}
		if len(list) == 0 {
			break
		}
	}
	return placed(list)
}

// P8.1: of files made by chance, right ones, and ones with a fault or more.
func TestMixedFiles(t *testing.T) {
	all := alphabet(t)
	right, wrong := 0, 0
	for seed := range uint64(1500) {
		next := chance(seed)
		list := tokens(t, strings.Join(made(next), " "))
		if check(t, list) {
			right++
		}
		for range 4 {
			if !check(t, changed(next, list, all)) {
				wrong++
			}
		}
	}
	if right < 1000 || wrong < 3000 {
		t.Errorf("%d right ones, %d wrong ones", right, wrong)
	}
}

// P8.1: files that are written out.
func TestWrittenOut(t *testing.T) {
	for _, row := range []struct {
		text string
		want File
	}{
		{`syntax = "proto3";`, File{}},
		{"syntax='proto3';;;", File{}},
		{`syntax = "proto3"; package a;`, File{Package: "a"}},
		{"syntax = \"proto3\"; package a . b\n.c1 ;;", File{Package: "a.b.c1"}},
		{`syntax = "proto3"; package package;`, File{Package: "package"}},
		{ // the chapter's example
			`syntax = "proto3"; message A { int32 x = 1; }`,
			File{Messages: []Message{{Name: "A", Line: 1, Col: 28, Fields: []Field{{Name: "x", Type: "int32", Label: Single, Number: 1, Line: 1, Col: 38}}}}},
		},
		{
			"syntax = 'proto3';\nenum E { a = 0; ;\n b = -0x10; c = 2147483647;\n d = - 2147483647; }\nmessage M { } enum F { ; z = -0; }",
			File{
				Messages: []Message{{Name: "M", Line: 5, Col: 9}},
				Enums: []Enum{
					{Name: "E", Line: 2, Col: 6, Values: []Value{{"a", 0, 2, 10}, {"b", -16, 3, 2}, {"c", math.MaxInt32, 3, 13}, {"d", -math.MaxInt32, 4, 2}}},
					{Name: "F", Line: 5, Col: 20, Values: []Value{{"z", 0, 5, 26}}},
				},
			},
		},
		{
			"syntax = 'proto3'; message M {\n" +
				"repeated a x1 = 1;\n" +
				"optional .a.b x2 = 0x2;\n" +
				"map<string, . a . b> x3 = 3 [packed = true];\n" +
				"repeated a x4 = 4 [packed = false, key = k];\n" +
				"a . b x5 = 0 [key = key];\n" +
				".c x6 = 2147483647 [key = b, packed = true];\n" +
				"map map = 7;\n" +
				"map.map map = 8;\n" +
				"repeated map repeated = 9;\n" +
				"repeated repeated optional = 10;\n" +
				"optional message enum = 11;\n" +
				"repeated.a x = 12;\n" +
				"to max = 13; }",
			File{Messages: []Message{{Name: "M", Line: 1, Col: 28, Fields: []Field{
				{Name: "x1", Type: "a", Label: Repeated, Number: 1, Line: 2, Col: 12},
				{Name: "x2", Type: ".a.b", Label: Optional, Number: 2, Line: 3, Col: 15},
				{Name: "x3", Type: ".a.b", MapKey: "string", Label: Map, Number: 3, Packed: 1, Line: 4, Col: 22},
				{Name: "x4", Type: "a", Key: "k", Label: Repeated, Number: 4, Packed: 2, Line: 5, Col: 12},
				{Name: "x5", Type: "a.b", Key: "key", Label: Single, Number: 0, Line: 6, Col: 7},
				{Name: "x6", Type: ".c", Key: "b", Label: Single, Number: math.MaxInt32, Packed: 1, Line: 7, Col: 4},
				{Name: "map", Type: "map", Label: Single, Number: 7, Line: 8, Col: 5},
				{Name: "map", Type: "map.map", Label: Single, Number: 8, Line: 9, Col: 9},
				{Name: "repeated", Type: "map", Label: Repeated, Number: 9, Line: 10, Col: 14},
				{Name: "optional", Type: "repeated", Label: Repeated, Number: 10, Line: 11, Col: 19},
				{Name: "enum", Type: "message", Label: Optional, Number: 11, Line: 12, Col: 18},
				{Name: "x", Type: ".a", Label: Repeated, Number: 12, Line: 13, Col: 12},
				{Name: "max", Type: "to", Label: Single, Number: 13, Line: 14, Col: 4},
			}}}},
		},
		{ // oneofs are numbered, and their fields stand among the others
			"syntax = 'proto3'; message M { a a = 1; oneof o { ; b b = 2; ; repeated c = 3; }\n" +
				"message N { oneof o { message m = 1; } } d d = 4; oneof p { map e = 5; oneof f = 6; reserved.a g = 7; } h h = 8; }",
			File{Messages: []Message{{
				Name: "M", Line: 1, Col: 28, Oneofs: []string{"o", "p"},
				Fields: []Field{
					{Name: "a", Type: "a", Label: Single, Number: 1, Line: 1, Col: 34},
					{Name: "b", Type: "b", Label: Single, Number: 2, Oneof: 1, Line: 1, Col: 55},
					{Name: "c", Type: "repeated", Label: Single, Number: 3, Oneof: 1, Line: 1, Col: 73},
					{Name: "d", Type: "d", Label: Single, Number: 4, Line: 2, Col: 44},
					{Name: "e", Type: "map", Label: Single, Number: 5, Oneof: 2, Line: 2, Col: 65},
					{Name: "f", Type: "oneof", Label: Single, Number: 6, Oneof: 2, Line: 2, Col: 78},
					{Name: "g", Type: "reserved.a", Label: Single, Number: 7, Oneof: 2, Line: 2, Col: 96},
					{Name: "h", Type: "h", Label: Single, Number: 8, Line: 2, Col: 107},
				},
				Messages: []Message{{Name: "N", Line: 2, Col: 9, Oneofs: []string{"o"}, Fields: []Field{
					{Name: "m", Type: "message", Label: Single, Number: 1, Oneof: 1, Line: 2, Col: 31},
				}}},
			}}},
		},
		{
			"syntax = 'proto3'; message M { reserved 5; reserved 'a', \"b c\", ''; reserved 7 to 9, 1, 0x10 to max, 9 to 7; reserved \"max\"; reserved 0 to 0; }",
			File{Messages: []Message{{
				Name: "M", Line: 1, Col: 28,
				Reserved: []Range{{5, 5}, {7, 9}, {1, 1}, {16, 536870911}, {9, 7}, {0, 0}},
				Names:    []string{"a", "b c", "", "max"},
			}}},
		},
		{ // twice the same is none of this layer's faults
			"syntax = 'proto3'; message A { message A { } message A { enum A { a = 1; a = 1; } } enum B { b = 9; } enum B { c = 8; } }",
			File{Messages: []Message{{
				Name: "A", Line: 1, Col: 28,
				Messages: []Message{
					{Name: "A", Line: 1, Col: 40},
					{Name: "A", Line: 1, Col: 54, Enums: []Enum{{Name: "A", Line: 1, Col: 63, Values: []Value{{"a", 1, 1, 67}, {"a", 1, 1, 74}}}}},
				},
				Enums: []Enum{
					{Name: "B", Line: 1, Col: 90, Values: []Value{{"b", 9, 1, 94}}},
					{Name: "B", Line: 1, Col: 108, Values: []Value{{"c", 8, 1, 112}}},
				},
			}}},
		},
	} {
		got, err := Of(row.text)
		if err != nil || !reflect.DeepEqual(got, row.want) || !Same(got, row.want) {
			t.Errorf("Of(%s): %v, %v, want %v", row.text, got, err, row.want)
		}
		check(t, tokens(t, row.text))
	}
}

// P8.1: faults that are written out, with their places.
func TestFaults(t *testing.T) {
	const head = "syntax = 'proto3'; "
	const inside = head + "message A {\n"
	for _, row := range []struct {
		text      string
		line, col int
		err       error
	}{
		{"", 0, 0, api.ErrForm},
		{"// syntax = 'proto3';", 0, 0, api.ErrForm},
		{"message A { }", 1, 1, api.ErrForm},
		{"'syntax' = 'proto3';", 1, 1, api.ErrForm},
		{"syntax", 0, 0, api.ErrForm},
		{"syntax 'proto3';", 1, 8, api.ErrForm},
		{"syntax '=' 'proto3';", 1, 8, api.ErrForm},
		{"syntax = proto3;", 1, 10, api.ErrForm},
		{"syntax = 'proto2';", 1, 10, api.ErrForm},
		{"syntax = 'Proto3';", 1, 10, api.ErrForm},
		{"syntax = ' proto3';", 1, 10, api.ErrForm},
		{"syntax = '';", 1, 10, api.ErrForm},
		{"syntax = 'proto3'", 0, 0, api.ErrForm},
		{"syntax = 'proto3' ';'", 1, 19, api.ErrForm},
		{";syntax = 'proto3';", 1, 1, api.ErrForm},
		{head + head, 1, 20, api.ErrForm},
		{head + "package", 0, 0, api.ErrForm},
		{head + "package ;", 1, 28, api.ErrForm},
		{head + "package .a;", 1, 28, api.ErrForm},
		{head + "package 'a';", 1, 28, api.ErrForm},
		{head + "package a.;", 1, 30, api.ErrForm},
		{head + "package a..b;", 1, 30, api.ErrForm},
		{head + "package a b;", 1, 30, api.ErrForm},
		{head + "package a; package b;", 1, 31, api.ErrForm},
		{head + "; package a;", 1, 22, api.ErrForm},
		{head + "enum E { a = 0; } package a;", 1, 38, api.ErrForm},
		{head + "'message' A { }", 1, 20, api.ErrForm},
		{head + "a b = 1;", 1, 20, api.ErrForm},
		{head + "oneof o { a b = 1; }", 1, 20, api.ErrForm},
		{head + "reserved 1;", 1, 20, api.ErrForm},
		{head + "}", 1, 20, api.ErrForm},
		{head + "message", 0, 0, api.ErrForm},
		{head + "message {", 1, 28, api.ErrForm},
		{head + "message 1 {", 1, 28, api.ErrForm},
		{head + "message 'A' {", 1, 28, api.ErrForm},
		{head + "message A.B {", 1, 29, api.ErrForm},
		{head + "message A;", 1, 29, api.ErrForm},
		{head + "message A", 0, 0, api.ErrForm},
		{head + "message A {", 0, 0, api.ErrForm},
		{head + "message A { ;", 0, 0, api.ErrForm},
		{head + "message A { } }", 1, 34, api.ErrForm},
		{inside + "1 }", 2, 1, api.ErrForm},
		{inside + "'a' b = 1; }", 2, 1, api.ErrForm},
		{inside + "= }", 2, 1, api.ErrForm},
		{inside + "a }", 2, 3, api.ErrForm},
		{inside + "a = 1; }", 2, 3, api.ErrForm},
		{inside + "a. b = 1; }", 2, 6, api.ErrForm},
		{inside + "..a b = 1; }", 2, 2, api.ErrForm},
		{inside + "a b.c = 1; }", 2, 4, api.ErrForm},
		{inside + "a 'b' = 1; }", 2, 3, api.ErrForm},
		{inside + "a b 1; }", 2, 5, api.ErrForm},
		{inside + "a b = ; }", 2, 7, api.ErrForm},
		{inside + "a b = -1; }", 2, 7, api.ErrForm},
		{inside + "a b = c; }", 2, 7, api.ErrForm},
		{inside + "a b = '1'; }", 2, 7, api.ErrForm},
		{inside + "a b = 1 }", 2, 9, api.ErrForm},
		{inside + "a b = 1, }", 2, 8, api.ErrForm},
		{inside + "a b = 1", 0, 0, api.ErrForm},
		{inside + "repeated = 1; }", 2, 10, api.ErrForm},
		{inside + "repeated a = 1; }", 2, 12, api.ErrForm},
		{inside + "repeated optional a b = 1; }", 2, 21, api.ErrForm},
		{inside + "repeated map<a, b> c = 1; }", 2, 13, api.ErrForm},
		{inside + "optional map<a, b> c = 1; }", 2, 13, api.ErrForm},
		{inside + "repeated oneof o { a b = 1; } }", 2, 18, api.ErrForm},
		{inside + "message a = 1; }", 2, 11, api.ErrForm},
		{inside + "enum.a b = 1; }", 2, 5, api.ErrForm},
		{inside + "oneof o = 1; }", 2, 9, api.ErrForm},
		{inside + "reserved r = 1; }", 2, 10, api.ErrForm},
		{inside + "map<> a = 1; }", 2, 5, api.ErrForm},
		{inside + "map<.a, b> c = 1; }", 2, 5, api.ErrForm},
		{inside + "map<a.b, c> d = 1; }", 2, 6, api.ErrForm},
		{inside + "map<a> b = 1; }", 2, 6, api.ErrForm},
		{inside + "map<a, > b = 1; }", 2, 8, api.ErrForm},
		{inside + "map<a, b, c> d = 1; }", 2, 9, api.ErrForm},
		{inside + "map<a, map<b, c>> d = 1; }", 2, 11, api.ErrForm},
		{inside + "map<a, b> = 1; }", 2, 11, api.ErrForm},
		{inside + "map '<' a, b> c = 1; }", 2, 5, api.ErrForm},
		{inside + "a b = 1 []; }", 2, 10, api.ErrForm},
		{inside + "a b = 1 [packed]; }", 2, 16, api.ErrForm},
		{inside + "a b = 1 [packed = 1]; }", 2, 19, api.ErrForm},
		{inside + "a b = 1 [packed = 'true']; }", 2, 19, api.ErrForm},
		{inside + "a b = 1 [packed = True]; }", 2, 19, api.ErrForm},
		{inside + "a b = 1 ['packed' = true]; }", 2, 10, api.ErrForm},
		{inside + "a b = 1 [packed = true,]; }", 2, 24, api.ErrForm},
		{inside + "a b = 1 [packed = true key = a]; }", 2, 24, api.ErrForm},
		{inside + "a b = 1 [packed = true, packed = true]; }", 2, 25, api.ErrForm},
		{inside + "a b = 1 [packed = false, key = a, packed = true]; }", 2, 35, api.ErrForm},
		{inside + "a b = 1 [key = a, key = a]; }", 2, 19, api.ErrForm},
		{inside + "a b = 1 [key = a, packed = true, key = b]; }", 2, 34, api.ErrForm},
		{inside + "a b = 1 [key = 'a']; }", 2, 16, api.ErrForm},
		{inside + "a b = 1 [key = 1]; }", 2, 16, api.ErrForm},
		{inside + "a b = 1 [key = a.b]; }", 2, 17, api.ErrForm},
		{inside + "a b = 1 [key]; }", 2, 13, api.ErrForm},
		{inside + "a b = 1 [deprecated = true]; }", 2, 10, api.ErrForm},
		{inside + "a b = 1 [, packed = true]; }", 2, 10, api.ErrForm},
		{inside + "a b = 1 [packed = true] [key = a]; }", 2, 25, api.ErrForm},
		{inside + "a b = 1 [packed = true; }", 2, 23, api.ErrForm},
		{inside + "oneof { a b = 1; } }", 2, 7, api.ErrForm},
		{inside + "oneof o { } }", 2, 11, api.ErrForm},
		{inside + "oneof o { ; } }", 2, 13, api.ErrForm},
		{inside + "oneof o { repeated a b = 1; } }", 2, 22, api.ErrForm},
		{inside + "oneof o { optional a b = 1; } }", 2, 22, api.ErrForm},
		{inside + "oneof o { map<a, b> c = 1; } }", 2, 14, api.ErrForm},
		{inside + "oneof o { oneof p { a b = 1; } } }", 2, 19, api.ErrForm},
		{inside + "oneof o { message N { } } }", 2, 21, api.ErrForm},
		{inside + "oneof o { reserved 1; } }", 2, 20, api.ErrForm},
		{inside + "oneof o { a b = 1; ", 0, 0, api.ErrForm},
		{inside + "reserved; }", 2, 9, api.ErrForm},
		{inside + "reserved a; }", 2, 10, api.ErrForm},
		{inside + "reserved max; }", 2, 10, api.ErrForm},
		{inside + "reserved -1; }", 2, 10, api.ErrForm},
		{inside + "reserved 1,; }", 2, 12, api.ErrForm},
		{inside + "reserved 1 2; }", 2, 12, api.ErrForm},
		{inside + "reserved 1, 'a'; }", 2, 13, api.ErrForm},
		{inside + "reserved 'a', 1; }", 2, 15, api.ErrForm},
		{inside + "reserved 'a' 'b'; }", 2, 14, api.ErrForm},
		{inside + "reserved 'a' to 'b'; }", 2, 14, api.ErrForm},
		{inside + "reserved 1 to; }", 2, 14, api.ErrForm},
		{inside + "reserved 1 to 'max'; }", 2, 15, api.ErrForm},
		{inside + "reserved 1 'to' 2; }", 2, 12, api.ErrForm},
		{inside + "reserved 1 to 2 to 3; }", 2, 17, api.ErrForm},
		{inside + "reserved max to 3; }", 2, 10, api.ErrForm},
		{inside + "reserved 1 }", 2, 12, api.ErrForm},
		{head + "enum { a = 0; }", 1, 25, api.ErrForm},
		{head + "enum E { }", 1, 29, api.ErrForm},
		{head + "enum E { ;; }", 1, 32, api.ErrForm},
		{head + "enum E { a; }", 1, 30, api.ErrForm},
		{head + "enum E { 1 = 0; }", 1, 29, api.ErrForm},
		{head + "enum E { 'a' = 0; }", 1, 29, api.ErrForm},
		{head + "enum E { a = b; }", 1, 33, api.ErrForm},
		{head + "enum E { a = - -1; }", 1, 35, api.ErrForm},
		{head + "enum E { a = '-' 1; }", 1, 33, api.ErrForm},
		{head + "enum E { a = 1 - 1; }", 1, 35, api.ErrForm},
		{head + "enum E { a = 0 }", 1, 35, api.ErrForm},
		{head + "enum E { a = 0 [packed = true]; }", 1, 35, api.ErrForm},
		{head + "enum E { reserved 1; }", 1, 38, api.ErrForm},
		{head + "enum E { enum F { a = 0; } }", 1, 34, api.ErrForm},
		{head + "enum E { a = 0;", 0, 0, api.ErrForm},
		// Layer 7's faults come ahead of all of this layer's.
		{"message #", 1, 9, api.ErrForm},
		{"message A {\n 2147483648", 2, 2, api.ErrRange},
		{"a " + strings.Repeat("b", 41), 1, 3, api.ErrLong},
		{strings.Repeat(" ", 4001), 0, 0, api.ErrLong},
	} {
		got, err := Of(row.text)
		checkFault(t, "Of "+row.text, got, err, lexer.Fault{Line: row.line, Col: row.col, Err: row.err})
		if line, col, is := lexer.Where(err); line != row.line || col != row.col || !is {
			t.Errorf("Where of %s: %d, %d, %v", row.text, line, col, is)
		}
		if list, err := lexer.Split(row.text); err == nil {
			check(t, list)
		}
	}
}

// nested is so many messages within one another.
func nested(size int, inmost string) string {
	return "syntax = 'proto3';\n" + strings.Repeat("message A {", size) + inmost + strings.Repeat("}", size)
}

// P8.1: a message may be within seven others, but not within eight.
func TestNest(t *testing.T) {
	for size := range 9 {
		f, err := Of(nested(size, ""))
		if err != nil {
			t.Fatalf("%d messages within one another: %v", size, err)
		}
		at := 0
		for list := f.Messages; len(list) > 0; list = list[0].Messages {
			if want := 9 + 11*at; len(list) != 1 || list[0].Name != "A" || list[0].Line != 2 || list[0].Col != want {
				t.Fatalf("message %d of %d: %v", at, size, list)
			}
			at++
		}
		if at != size {
			t.Fatalf("%d messages of %d", at, size)
		}
	}
	for _, row := range []struct {
		text      string
		line, col int
		err       error
	}{
		{nested(9, ""), 2, 9 + 11*8, api.ErrDepth},
		{nested(10, ""), 2, 9 + 11*8, api.ErrDepth},
		{nested(20, "#"), 2, 1 + 11*20, api.ErrForm},
		{nested(8, "message B"), 2, 9 + 11*8, api.ErrDepth},
		{nested(8, "message B = 1;"), 2, 9 + 11*8, api.ErrDepth},
		{nested(8, "message message"), 2, 9 + 11*8, api.ErrDepth},
		{nested(8, "message {}"), 2, 9 + 11*8, api.ErrForm},
		{nested(8, "message 1 {}"), 2, 9 + 11*8, api.ErrForm},
		{nested(8, "a message B {}"), 2, 11 + 11*8, api.ErrForm},
		{nested(8, "a = 1; message B {}"), 2, 3 + 11*8, api.ErrForm},
		{nested(8, "} message B { message C {"), 2, 23 + 11*8, api.ErrDepth},
		{strings.TrimRight(nested(8, "message"), "}"), 0, 0, api.ErrForm},
	} {
		got, err := Of(row.text)
		checkFault(t, "Of "+row.text, got, err, lexer.Fault{Line: row.line, Col: row.col, Err: row.err})
	}
	wide := nested(7, "message B { message C { } } message D { } enum E { a = 0; } oneof o { message b = 1; }")
	if got, err := Of(strings.Replace(wide, "message C { }", "", 1)); err != nil || Fields(got.Messages[0]) != 1 {
		t.Errorf("beside one another: %v, %v", got, err)
	}
	got, err := Of(wide)
	checkFault(t, "Of "+wide, got, err, lexer.Fault{Line: 2, Col: 11*7 + 21, Err: api.ErrDepth})
}

// P8.1: tokens that no text has.
func TestTokensOfNoText(t *testing.T) {
	field := func(options ...lexer.Token) []lexer.Token {
		list := slices.Concat(tokens(t, "syntax = 'proto3'; message A { a b = 1 ["), options, tokens(t, "]; }"))
		return placed(list)
	}
	empty := lexer.Token{Kind: lexer.Word}
	key := slices.Concat(tokens(t, "key ="), []lexer.Token{empty, {Kind: lexer.Sign, Text: ","}})
	for _, row := range []struct {
		list []lexer.Token
		want string
	}{
		{field(key[:3]...), ""},
		{field(slices.Concat(key, tokens(t, "key = a"))...), "a"},
		{field(slices.Concat(key, key[:3])...), ""},
		{field(slices.Concat(key, tokens(t, "packed = true, key = a"))...), "a"},
	} {
		if f, err := Parse(row.list); err != nil || f.Messages[0].Fields[0].Key != row.want {
			t.Errorf("Parse(%s): %v, %v, want the key %q", told(row.list), f, err, row.want)
		}
		check(t, row.list)
	}
	list := field(slices.Concat(tokens(t, "packed = true,"), tokens(t, "key = a,"), key[:3])...)
	got, err := Parse(list)
	checkFault(t, "a key twice", got, err, lexer.Fault{Line: 120, Col: 860, Err: api.ErrForm})

	// A name is a Word, and a number an Int, whatever they have in them.
	list = tokens(t, "syntax = 'proto3'; package a.b; message a { .a.b c = 1; enum d { e = -2; } reserved 3 to 4; }")
	for i := range list {
		switch {
		case list[i].Kind == lexer.Int:
			list[i].Number = math.MinInt + i
		case list[i].Kind == lexer.Word && len(list[i].Text) == 1:
			list[i].Text = []string{"", "1", "a b", strings.Repeat("x", 1000), "\xff"}[i%5]
		}
	}
	if !check(t, list) {
		t.Error("names and numbers of any kind are right")
	}

	// Tokens of other kinds are no names, no numbers and no texts.
	for _, kind := range []int{0, 5, -1, math.MaxInt, math.MinInt, 1<<32 + 1} {
		for i, x := range list {
			if x.Kind != lexer.Sign {
				other := slices.Clone(list)
				other[i].Kind = kind
				check(t, other)
			}
		}
	}
}

// P8.1: places are told as they are given.
func TestPlaces(t *testing.T) {
	list := tokens(t, "syntax = 'proto3'; message A { a b = 1; enum E { c = 0; } )")
	for i := range list {
		list[i].Line, list[i].Col = -i, math.MinInt+i
	}
	got, err := Parse(list)
	last := len(list) - 1
	checkFault(t, "a fault at a strange place", got, err, lexer.Fault{Line: -last, Col: math.MinInt + last, Err: api.ErrForm})
	list[last] = lexer.Token{Kind: lexer.Sign, Text: "}"}
	f, err := Parse(list)
	if err != nil {
		t.Fatal(err)
	}
	m := f.Messages[0]
	if m.Line != -5 || m.Fields[0].Col != math.MinInt+8 || m.Enums[0].Line != -13 || m.Enums[0].Values[0].Col != math.MinInt+15 {
		t.Errorf("places: %v", m)
	}
}

// P8.1: tokens by the ten thousand.
func TestManyTokens(t *testing.T) {
	const many = 30000
	repeat := func(head, body, tail string) []lexer.Token {
		return placed(slices.Concat(tokens(t, head), slices.Repeat(tokens(t, body), many), tokens(t, tail)))
	}
	f, err := Parse(repeat("syntax = 'proto3'; message A { a", ".a", "b = 1; }"))
	if err != nil || f.Messages[0].Fields[0].Type != "a"+strings.Repeat(".a", many) {
		t.Errorf("a long type: %v", err)
	}
	f, err = Parse(repeat("syntax = 'proto3'; message A {", "oneof o { a b = 1; } enum E { a = 1; } reserved 1; ; message B { a b = 1; }", "}"))
	if err != nil || len(f.Messages) != 1 {
		t.Fatalf("a long message: %v", err)
	}
	m := f.Messages[0]
	if len(m.Fields) != many || m.Fields[many-1].Oneof != many || len(m.Enums) != many || len(m.Reserved) != many || Fields(m) != 2*many {
		t.Errorf("a long message: %d fields", len(m.Fields))
	}
	list := repeat("syntax = 'proto3';", "message A {", "")
	f, err = Parse(list)
	name := list[4+3*8+1]
	checkFault(t, "deep messages", f, err, lexer.Fault{Line: name.Line, Col: name.Col, Err: api.ErrDepth})
}

// P8.1: the labels' numbers.
func TestLabels(t *testing.T) {
	if Single != 1 || Optional != 2 || Repeated != 3 || Map != 4 {
		t.Errorf("labels: %d, %d, %d, %d", Single, Optional, Repeated, Map)
	}
}

// eachPart calls with each place of a value where something can be changed, down through structs and lists.
func eachPart(v reflect.Value, call func(v reflect.Value)) {
	switch v.Kind() {
	case reflect.Struct:
		for i := range v.NumField() {
			eachPart(v.Field(i), call)
		}
	case reflect.Slice:
		call(v)
		for i := range v.Len() {
			eachPart(v.Index(i), call)
		}
	default:
		call(v)
	}
}

// otherThan is another value of a kind; of a list one with an element more, and one with one less.
func otherThan(v reflect.Value) []reflect.Value {
	switch v.Kind() {
	case reflect.Int:
		return []reflect.Value{reflect.ValueOf(int(v.Int()) + 1), reflect.ValueOf(int(v.Int()) - 1<<32)}
	case reflect.String:
		return []reflect.Value{reflect.ValueOf(v.String() + "x"), reflect.ValueOf(strings.ToUpper(v.String()) + ".")}
	}
	more := reflect.MakeSlice(v.Type(), v.Len()+1, v.Len()+1)
	reflect.Copy(more, v)
	if v.Len() == 0 {
		return []reflect.Value{more}
	}
	return []reflect.Value{more, v.Slice(0, v.Len()-1)}
}

// P8.1: two are the same only if all that they have is.
func TestSame(t *testing.T) {
	parsed := func() File {
		f, err := Of(rich)
		if err != nil {
			t.Fatal(err)
		}
		return f
	}
	a, b := parsed(), parsed()
	if !Same(a, b) || !Same(File{}, File{}) || Same(a, File{}) || Same(File{}, a) {
		t.Fatal("a file is the same as itself alone")
	}
	changes := 0
	eachPart(reflect.ValueOf(&b).Elem(), func(v reflect.Value) {
		was := reflect.New(v.Type()).Elem()
		was.Set(v)
		for _, x := range otherThan(v) {
			v.Set(x)
			if Same(a, b) || Same(b, a) {
				t.Fatalf("%v instead of %v is told to be the same", x, was)
			}
			changes++
		}
		v.Set(was)
		if !Same(a, b) {
			t.Fatal("changed back, it isn't the same")
		}
	})
	if changes < 250 {
		t.Errorf("%d changes", changes)
	}
	slices.Reverse(b.Messages[0].Fields)
	if Same(a, b) {
		t.Error("the order of fields doesn't matter")
	}
}

// P8.1: a list without elements and nil are the same.
func TestSameEmpty(t *testing.T) {
	full := File{Messages: []Message{{Fields: []Field{}, Oneofs: []string{}, Messages: []Message{}, Enums: []Enum{}, Reserved: []Range{}, Names: []string{}}}, Enums: []Enum{{Values: []Value{}}}}
	none := File{Messages: []Message{{}}, Enums: []Enum{{}}}
	if !Same(full, none) || !Same(none, full) || !Same(File{Messages: []Message{}, Enums: []Enum{}}, File{}) {
		t.Error("lists without elements aren't the same as none")
	}
	if Same(full, File{Messages: []Message{{}}}) || Same(File{Enums: []Enum{{}}}, File{}) {
		t.Error("an empty message or enum is told to be none")
	}
}

// P8.1: Same and Fields of messages that go as deep as the document bounds.
func TestDeep(t *testing.T) {
	deep := func(inmost string) Message {
		m := Message{Name: inmost}
		for range 1<<16 - 1 {
			m = Message{Fields: []Field{{}}, Messages: []Message{m}}
		}
		return m
	}
	a, b, c := deep("a"), deep("a"), deep("c")
	if Fields(a) != 1<<16-1 {
		t.Errorf("Fields of a deep message: %d", Fields(a))
	}
	of := func(m Message) File { return File{Messages: []Message{m}} }
	if !Same(of(a), of(b)) || Same(of(a), of(c)) {
		t.Error("deep messages aren't told apart right")
	}
}

// P8.1: how many fields there are, of all that are within.
func TestFields(t *testing.T) {
	for _, row := range []struct {
		text string
		want int
	}{
		{"", 0},
		{"a b = 1;", 1},
		{"a b = 1; oneof o { a b = 1; a b = 1; } map<a, b> c = 1;", 4},
		{"enum E { a = 0; b = 1; } reserved 1, 2; reserved 'a';", 0},
		{"message B { a b = 1; message C { a b = 1; repeated a b = 1; } } a b = 1; message D { } message E { oneof o { a b = 1; } }", 5},
	} {
		f, err := Of("syntax = 'proto3'; message A { " + row.text + " }")
		if err != nil || Fields(f.Messages[0]) != row.want {
			t.Errorf("Fields of %s: %v, %v, want %d", row.text, f, err, row.want)
		}
	}
	if Fields(Message{}) != 0 {
		t.Error("fields of an empty message")
	}
}

// within tells whether a text stands in the memory of another one.
func within(s, of string) bool {
	at, begin := uintptr(unsafe.Pointer(unsafe.StringData(s))), uintptr(unsafe.Pointer(unsafe.StringData(of)))
	return s != "" && begin <= at && at < begin+uintptr(len(of))
}

// P8.1: what is answered shares no memory with what was given, nor with another answer, nor do two lists of one answer.
func TestApart(t *testing.T) {
	list, err := lexer.Split(rich)
	if err != nil {
		t.Fatal(err)
	}
	one, err := Parse(list)
	two, errAgain := Parse(list)
	if err != nil || errAgain != nil {
		t.Fatal(err, errAgain)
	}
	texts := 0
	eachPart(reflect.ValueOf(&one).Elem(), func(v reflect.Value) {
		if v.Kind() == reflect.String {
			texts++
			if slices.ContainsFunc(list, func(x lexer.Token) bool { return within(v.String(), x.Text) }) {
				t.Fatalf("%q is in the memory of a token", v.String())
			}
		}
	})
	if texts < 30 {
		t.Errorf("%d texts", texts)
	}
	// What is put behind a list's end is in no other list.
	eachPart(reflect.ValueOf(&one).Elem(), func(v reflect.Value) {
		if v.Kind() == reflect.Slice {
			reflect.Append(v, reflect.Zero(v.Type().Elem()))
		}
	})
	if !Same(one, two) {
		t.Error("two lists of one answer share memory")
	}
	eachPart(reflect.ValueOf(&one).Elem(), func(v reflect.Value) {
		if v.Kind() != reflect.Slice {
			v.SetZero()
		}
	})
	if want, _ := modelParse(list); !Same(two, want) {
		t.Error("two answers share memory")
	}
}

// gapped is pieces with gaps between, and which of them stands at a place.
func gapped(next func(below int) int, pieces []string) (string, func(line, col int) int) {
	gaps := []string{" ", "\t", "\r", "\n", "\r\n", "//\n", "// ; } \" ' /*\n", "/**/", "/* ; = 'a'\n */", " \t/* // */\n\n"}
	at := map[[2]int]int{}
	text := ""
	for i := range len(pieces) + 1 {
		tight := i == 0 || i == len(pieces) || strings.ContainsAny(pieces[i-1]+pieces[i], "{}[]<>;=,.-'\"")
		if !tight || next(3) == 0 {
			text += gaps[next(len(gaps))]
		}
		if i < len(pieces) {
			at[[2]int{1 + strings.Count(text, "\n"), len(text) - strings.LastIndex(text, "\n")}] = i + 1
			text += pieces[i]
		}
	}
	if next(4) == 0 {
		text += "// the end"
	}
	return text, func(line, col int) int { return at[[2]int{line, col}] }
}

// numbered has the number of a token, from 1 on, as each place's line.
func numbered(f File, number func(line, col int) int) File {
	var places func(v reflect.Value)
	places = func(v reflect.Value) {
		switch v.Kind() {
		case reflect.Struct:
			if line := v.FieldByName("Line"); line.IsValid() {
				line.SetInt(int64(number(int(line.Int()), int(v.FieldByName("Col").Int()))))
				v.FieldByName("Col").SetInt(0)
			}
			for i := range v.NumField() {
				places(v.Field(i))
			}
		case reflect.Slice:
			for i := range v.Len() {
				places(v.Index(i))
			}
		}
	}
	places(reflect.ValueOf(&f).Elem())
	return f
}

// checkGaps asks P8.2 of pieces, with gaps between by chance twice.
func checkGaps(t *testing.T, next func(below int) int, pieces []string) bool {
	t.Helper()
	text, number := gapped(next, pieces)
	again, numberAgain := gapped(next, pieces)
	a, err := Of(text)
	b, errAgain := Of(again)
	if err != nil {
		line, col, _ := lexer.Where(err)
		lineAgain, colAgain, _ := lexer.Where(errAgain)
		if number(line, col) != numberAgain(lineAgain, colAgain) || err.(*lexer.Fault).Err != errAgain.(*lexer.Fault).Err {
			t.Fatalf("Of(%q): %v, Of(%q): %v", text, err, again, errAgain)
		}
		return false
	}
	if a, b := numbered(a, number), numbered(b, numberAgain); errAgain != nil || !Same(a, b) {
		t.Fatalf("Of(%q): %v, Of(%q): %v, %v", text, a, again, b, errAgain)
	}
	return true
}

// P8.2: gaps and remarks don't matter but for places, of right files and of wrong ones.
func TestGaps(t *testing.T) {
	right, wrong := 0, 0
	for seed := range uint64(2000) {
		next := chance(seed)
		pieces := made(next)
		for len(pieces) > 300 {
			pieces = made(next)
		}
		if checkGaps(t, next, pieces) {
			right++
		}
		at := next(len(pieces))
		if !checkGaps(t, next, slices.Concat(pieces[:at], pieces[at+1:])) {
			wrong++
		}
	}
	if right < 1000 || wrong < 1000 {
		t.Errorf("%d right ones, %d wrong ones", right, wrong)
	}
}

// P8.2: what stands in remarks is no token.
func TestRemarks(t *testing.T) {
	plain, err := Of("syntax='proto3';message A{.a.b c=1[packed=true];}")
	if err != nil {
		t.Fatal(err)
	}
	remarked, err := Of("// package p;\nsyntax /* */ = // 'proto2'\n'proto3' /* ; */ ; /*/ message B { } /*/\nmessage//\nA { . /**/ a // x\n. b c = /* 2 */ 1 [ packed\n\n= true // , key = a\n ] ; /* } */ } // }")
	if err != nil {
		t.Fatal(err)
	}
	none := func(line, col int) int { return 0 }
	if !Same(numbered(plain, none), numbered(remarked, none)) {
		t.Errorf("with remarks: %v, want %v", remarked, plain)
	}
	if plain.Messages[0].Fields[0].Type != ".a.b" {
		t.Errorf("a type with gaps: %v", plain)
	}
}
