package schema

import (
	"errors"
	"math"
	"reflect"
	"slices"
	"strconv"
	"strings"
	"testing"
	"unsafe"

	"redline/api"
	"redline/kinds"
	"redline/lexer"
	"redline/syntax"
)

const head = "syntax = 'proto3'; "

// file is what a text declares behind its syntax.
func file(t *testing.T, text string) syntax.File {
	t.Helper()
	f, err := syntax.Of(head + text)
	if err != nil {
		t.Fatalf("%s: %v", text, err)
	}
	return f
}

// of is the schema of what a text declares behind its syntax: it is held against the model.
func of(t *testing.T, text string) Schema {
	t.Helper()
	s, err := Of(head + text)
	if err != nil {
		t.Fatalf("Of(%s): %v, %v", text, err, errors.Unwrap(err))
	}
	if other, is := check(t, file(t, text)); !is || !reflect.DeepEqual(s, other) {
		t.Fatalf("Of(%s): %v, Compile: %v", text, s, other)
	}
	return s
}

// wrong holds what Of answers of a text, and Compile of its file, against the one fault that is asked for.
func wrong(t *testing.T, text string, line, col int, err error) {
	t.Helper()
	want := lexer.Fault{Line: line, Col: col, Err: err}
	s, got := Of(head + text)
	checkFault(t, text, s, got, want)
	s, got = Compile(file(t, text))
	checkFault(t, text, s, got, want)
	if _, fault := modelCompile(file(t, text)); fault != want {
		t.Fatalf("%s: the model says %d:%d, %v, want %d:%d, %v", text, fault.Line, fault.Col, fault.Err, line, col, err)
	}
	if l, c, is := lexer.Where(got); l != line || c != col || !is {
		t.Fatalf("Where of %s: %d, %d, %v", text, l, c, is)
	}
}

// P11.1: schemas that are written out.
func TestSchema(t *testing.T) {
	for _, row := range []struct {
		text string
		want Schema
	}{
		{"", Schema{}},
		{"package p;", Schema{}},
		{"message A { }", Schema{Messages: []Message{{Name: "A"}}}},
		{"message A { repeated int32 x = 2; A a = 1; }", Schema{Messages: []Message{{Name: "A", Fields: []Field{
			{Name: "a", Number: 1, Label: syntax.Single, Kind: kinds.Message},
			{Name: "x", Number: 2, Label: syntax.Repeated, Kind: kinds.Int32, Packed: true},
		}}}}},
		{"enum E { Z = 0; Y = -1; X = 7; W = 2147483647; V = -2147483647; }", Schema{Enums: []Enum{{Name: "E",
			Names: []string{"Z", "Y", "X", "W", "V"}, Numbers: []int{0, -1, 7, 2147483647, -2147483647}}}}},
		{"message A { oneof q { int32 b = 3; } string c = 2; oneof p { A a = 1; bytes d = 536870911; } }",
			Schema{Messages: []Message{{Name: "A", Oneofs: []string{"q", "p"}, Fields: []Field{
				{Name: "a", Number: 1, Label: syntax.Single, Kind: kinds.Message, Oneof: 2},
				{Name: "c", Number: 2, Label: syntax.Single, Kind: kinds.String},
				{Name: "b", Number: 3, Label: syntax.Single, Kind: kinds.Int32, Oneof: 1},
				{Name: "d", Number: 536870911, Label: syntax.Single, Kind: kinds.Bytes, Oneof: 2},
			}}}}},
		{"message A { repeated B b = 9 [key = id]; } message B { optional E e = 5; map<string, B> m = 4; map<bool, E> n = 3; map<int64, double> o = 2; E id = 300; } enum D { Z = 0; } enum E { Z = 0; }",
			Schema{
				Messages: []Message{
					{Name: "A", Fields: []Field{{Name: "b", Number: 9, Label: syntax.Repeated, Kind: kinds.Message, Type: 1, Key: 300}}},
					{Name: "B", Fields: []Field{
						{Name: "o", Number: 2, Label: syntax.Map, Kind: kinds.Double, MapKey: kinds.Int64},
						{Name: "n", Number: 3, Label: syntax.Map, Kind: kinds.Enum, Type: 1, MapKey: kinds.Bool},
						{Name: "m", Number: 4, Label: syntax.Map, Kind: kinds.Message, Type: 1, MapKey: kinds.String},
						{Name: "e", Number: 5, Label: syntax.Optional, Kind: kinds.Enum, Type: 1},
						{Name: "id", Number: 300, Label: syntax.Single, Kind: kinds.Enum, Type: 1},
					}},
				},
				Enums: []Enum{{Name: "D", Names: []string{"Z"}, Numbers: []int{0}}, {Name: "E", Names: []string{"Z"}, Numbers: []int{0}}},
			}},
		{"package p.q; message M { message N { enum E { A = 0; } } N n = 1; N.E e = 2; .p.q.F f = 3; message M { M m = 1; } } enum F { B = 0; }",
			Schema{
				Messages: []Message{
					{Name: "p.q.M", Fields: []Field{
						{Name: "n", Number: 1, Label: syntax.Single, Kind: kinds.Message, Type: 1},
						{Name: "e", Number: 2, Label: syntax.Single, Kind: kinds.Enum, Type: 1},
						{Name: "f", Number: 3, Label: syntax.Single, Kind: kinds.Enum},
					}},
					{Name: "p.q.M.N"},
					{Name: "p.q.M.M", Fields: []Field{{Name: "m", Number: 1, Label: syntax.Single, Kind: kinds.Message, Type: 2}}},
				},
				Enums: []Enum{{Name: "p.q.F", Names: []string{"B"}, Numbers: []int{0}}, {Name: "p.q.M.N.E", Names: []string{"A"}, Numbers: []int{0}}},
			}},
	} {
		s := of(t, row.text)
		if !reflect.DeepEqual(s, row.want) || !Same(s, row.want) || !Same(row.want, s) {
			t.Errorf("Of(%s): %v, want %v", row.text, s, row.want)
		}
	}
}

// P11.1: each kind, with each label, packed, a key, and each kind of a map's keys.
func TestKinds(t *testing.T) {
	names := append(slices.Clone(modelKinds[1:]), "E", "M", "N", "enum", "message", "X")
	places := 0
	right, wrong := 0, 0
	for _, name := range names {
		for _, label := range []int{math.MinInt, -1, 0, 1, 2, 3, 4, 5, math.MaxInt} {
			for _, packed := range []int{-1, 0, 1, 2, 3} {
				for _, key := range []string{"", "a", "b", "c"} {
					for _, mapKey := range append([]string{""}, names...) {
						places++
						x := syntax.Field{Name: "b", Number: 5, Type: name, Label: label, Packed: packed, Key: key, MapKey: mapKey, Line: places, Col: -places}
						f := syntax.File{
							Enums: []syntax.Enum{{Name: "E", Values: []syntax.Value{{Name: "Z"}}}},
							Messages: []syntax.Message{
								{Name: "N"},
								{Name: "M", Fields: []syntax.Field{{Name: "a", Number: 4, Type: "bool", Label: 1}, x}},
							},
						}
						if _, is := check(t, f); is {
							right++
						} else {
							wrong++
						}
					}
				}
			}
		}
	}
	if right < 1000 || wrong < 1000 {
		t.Errorf("%d right ones, %d wrong ones", right, wrong)
	}
}

// P11.1: which fields are packed, written out.
func TestPacked(t *testing.T) {
	for kind := kinds.Double; kind <= kinds.Message; kind++ {
		name := kinds.Name(kind)
		number := true
		switch kind {
		case kinds.String, kinds.Bytes:
			number = false
		case kinds.Enum:
			name = "E"
		case kinds.Message:
			name, number = "M", false
		}
		for _, row := range []struct {
			field  string
			right  bool
			packed bool
		}{
			{name + " x = 1;", true, false},
			{"optional " + name + " x = 1;", true, false},
			{"repeated " + name + " x = 1;", true, number},
			{"map<string, " + name + "> x = 1;", true, false},
			{"oneof o { " + name + " x = 1; }", true, false},
			{"repeated " + name + " x = 1 [packed = true];", number, true},
			{"repeated " + name + " x = 1 [packed = false];", number, false},
			{name + " x = 1 [packed = true];", false, false},
			{name + " x = 1 [packed = false];", false, false},
			{"optional " + name + " x = 1 [packed = true];", false, false},
			{"map<string, " + name + "> x = 1 [packed = true];", false, false},
			{"map<string, " + name + "> x = 1 [packed = false];", false, false},
			{"oneof o { " + name + " x = 1 [packed = true]; }", false, false},
		} {
			text := "enum E { Z = 0; } message M {\n" + row.field + "}"
			if !row.right {
				wrong(t, text, 2, strings.Index(row.field, "x =")+1, api.ErrKind)
				continue
			}
			if f, is := of(t, text).Field(0, 1); !is || f.Packed != row.packed || f.Kind != kind {
				t.Errorf("%s: %v", row.field, f)
			}
		}
	}
}

// P11.1: which kinds a map's keys may be of.
func TestMapKeys(t *testing.T) {
	right := map[string]int{"int32": 3, "int64": 4, "uint32": 5, "uint64": 6, "sint32": 7, "sint64": 8, "fixed32": 9, "fixed64": 10, "sfixed32": 11, "sfixed64": 12, "bool": 13, "string": 14}
	for _, key := range append(modelKinds[1:], "enum", "message", "E", "M", "Int32", "X") {
		text := "message M {\nmap<" + key + ", M> x = 1; } enum E { Z = 0; }"
		kind, is := right[key]
		if !is {
			wrong(t, text, 2, 10+len(key), api.ErrKind)
			continue
		}
		if f, _ := of(t, text).Field(0, 1); f.MapKey != kind || f.Label != syntax.Map {
			t.Errorf("%s: %v", text, f)
		}
	}
}

// P11.1: which fields elements may be told apart by.
func TestKeyFields(t *testing.T) {
	for _, row := range []struct {
		inner string
		err   error
	}{
		{"int32 k = 9;", nil},
		{"int64 k = 9;", nil},
		{"uint32 k = 9;", nil},
		{"uint64 k = 9;", nil},
		{"sint32 k = 9;", nil},
		{"sint64 k = 9;", nil},
		{"fixed32 k = 9;", nil},
		{"fixed64 k = 9;", nil},
		{"sfixed32 k = 9;", nil},
		{"sfixed64 k = 9;", nil},
		{"bool k = 9;", nil},
		{"string k = 9;", nil},
		{"E k = 9;", nil},
		{"int32 j = 1; string k = 9; int32 l = 10;", nil},
		{"double k = 9;", api.ErrName},
		{"float k = 9;", api.ErrName},
		{"bytes k = 9;", api.ErrName},
		{"A k = 9;", api.ErrName},
		{"optional int32 k = 9;", api.ErrName},
		{"repeated int32 k = 9;", api.ErrName},
		{"map<int32, int32> k = 9;", api.ErrName},
		{"oneof o { int32 k = 9; }", api.ErrName},
		{"oneof k { int32 o = 9; }", api.ErrName},
		{"int32 K = 9;", api.ErrName},
		{"int32 kk = 9;", api.ErrName},
		{"message k { }", api.ErrName},
		{"enum k { Z = 0; }", api.ErrName},
		{"message N { int32 k = 9; }", api.ErrName},
		{"", api.ErrName},
	} {
		for _, order := range []string{"b message", "message b"} {
			a, b := "message A { int32 a = 1;\nrepeated B b = 2 [key = k]; } ", "message B { "+row.inner+" } enum E { Z = 0; }"
			if order == "message b" {
				a, b = strings.ReplaceAll(b, "\n", "")+" ", a
			}
			if row.err != nil {
				wrong(t, a+b, 2, 12, row.err)
				continue
			}
			s := of(t, a+b)
			at, _ := s.Find("A")
			if f, is := s.Named(at, "b"); !is || f.Key != 9 {
				t.Errorf("%s: %v", a+b, f)
			}
			if f, _ := s.Named(at, "a"); f.Key != 0 {
				t.Errorf("%s: a key that isn't told: %v", a+b, f)
			}
		}
	}
	// A message may hold itself, and many fields may tell keys.
	s := of(t, "message A { string s = 7; repeated A c = 3 [key = s]; repeated A a = 1 [key = e]; repeated A b = 2; B.C e = 8; repeated B d = 4 [key = i]; } message B { enum C { Z = 0; } int32 i = 100; }")
	for i, want := range []int{8, 0, 7, 100, 0, 0} {
		if got := s.Messages[0].Fields[i].Key; got != want {
			t.Errorf("the key of the field %d: %d, want %d", i, got, want)
		}
	}
	for _, field := range []string{"B x = 1", "optional B x = 1", "map<int32, B> x = 1", "repeated int32 x = 1", "repeated string x = 1", "repeated E x = 1", "oneof o { B x = 1"} {
		end := ";"
		if strings.HasPrefix(field, "oneof") {
			end = "; }"
		}
		wrong(t, "message A {\n"+field+" [key = k]"+end+" } message B { int32 k = 1; } enum E { k = 0; }", 2, strings.Index(field, "x")+1, api.ErrKind)
	}
}

// P11.1: which types names mean.
func TestTypes(t *testing.T) {
	const tail = " message N { } message M { } enum E { Z = 0; } }\nmessage M { } message int32 { } enum string { Z = 0; } message enum { message N { } } message message { } "
	for _, row := range []struct {
		name string
		want string // a full name; a kind's name; nothing, if it means nothing
	}{
		{"N", "p.A.N"},
		{"M", "p.A.M"},
		{".p.M", "p.M"},
		{"A", "p.A"},
		{"A.M", "p.A.M"},
		{"p.M", "p.M"},
		{"int32", "int32"}, // a kind's name is the kind, whatever types there are
		{".p.int32", "p.int32"},
		{"p.int32", "p.int32"},
		{"string", "string"},
		{"p.string", "p.string"},
		{"E", "p.A.E"},
		{"enum", "p.enum"}, // these two kinds have no name
		{"message", "p.message"},
		{"enum.N", "p.enum.N"},
		{".M", ""},
		{".int32", ""},
		{"X", ""},
		{"p", ""},
		{"p.A.X", ""},
		{"A.N.M", ""},
		{"Int32", ""},
		{"n", ""},
		{"Z", ""},
		{"uint8", ""},
	} {
		for _, label := range []string{"optional ", "repeated ", "map<int32, "} {
			end := ""
			if label == "map<int32, " {
				end = ">"
			}
			text := "package p; message A {\n" + label + row.name + end + " x = 1;" + tail
			if row.want == "" {
				wrong(t, text, 2, len(label+row.name+end)+2, api.ErrName)
				continue
			}
			s := of(t, text)
			f, _ := s.Field(0, 1)
			got := kinds.Name(f.Kind)
			switch f.Kind {
			case kinds.Enum:
				got = s.Enums[f.Type].Name
			case kinds.Message:
				got = s.Messages[f.Type].Name
			}
			if got != row.want {
				t.Errorf("%s: %s, want %s", text, got, row.want)
			}
		}
	}
}

// P11.1: the fields' numbers at both sides of their bounds.
func TestNumbers(t *testing.T) {
	for _, row := range []struct {
		number int
		right  bool
	}{
		{0, false}, {1, true}, {2, true}, {18999, true}, {19000, false}, {19001, false}, {19500, false}, {19998, false}, {19999, false}, {20000, true},
		{536870910, true}, {536870911, true}, {536870912, false}, {2147483647, false},
		{-1, false}, {-19500, false}, {math.MinInt, false}, {math.MaxInt, false}, {1<<32 + 1, false}, {1 << 29, false},
	} {
		f := syntax.File{Messages: []syntax.Message{{Name: "A", Fields: []syntax.Field{{Name: "x", Number: row.number, Type: "bool", Label: 1, Line: 3, Col: 4}}}}}
		s, err := Compile(f)
		check(t, f)
		switch {
		case !row.right:
			checkFault(t, row.number, s, err, lexer.Fault{Line: 3, Col: 4, Err: api.ErrRange})
		case err != nil || s.Messages[0].Fields[0].Number != row.number:
			t.Errorf("%d: %v, %v", row.number, s, err)
		}
		if row.number < 0 || row.number > 2147483647 {
			continue
		}
		text := "message A {\noneof o { bool y = 4; bool x = " + strconv.Itoa(row.number) + "; } }"
		if row.right {
			of(t, text)
		} else {
			wrong(t, text, 2, 28, api.ErrRange)
		}
	}
}

// P11.1: faults that are written out, with their places.
func TestFaults(t *testing.T) {
	for _, row := range []struct {
		text      string
		line, col int
		err       error
	}{
		// Layer 9's come ahead of all others.
		{"enum E { A = 1; }\nmessage A { } message A { }", 2, 23, api.ErrDup},
		{"message A { X x = 0; }\nmessage A { }", 2, 9, api.ErrDup},

		// Enums.
		{"enum\nE { A = 1; }", 2, 1, api.ErrForm},
		{"enum\nE { A = 1; B = 0; }", 2, 1, api.ErrForm},
		{"enum\nE { A = -1; }", 2, 1, api.ErrForm},
		{"enum\nE { A = 1; A = 1; }", 2, 1, api.ErrForm},
		{"message M {\nenum E { A = 2; } }", 2, 6, api.ErrForm},
		{"enum E {\nA = 0; B = 0; }", 2, 8, api.ErrDup},
		{"enum E {\nA = 0; A = 1; }", 2, 8, api.ErrDup},
		{"enum E {\nA = 0; B = 1; C = 2; B = 3; A = 1; }", 2, 22, api.ErrDup},
		{"enum E {\nA = 0; B = -1; C = 1; D = -1; }", 2, 23, api.ErrDup},
		{"enum E {\nA = 0; B = -0; }", 2, 8, api.ErrDup},

		// Fields: each fault, and of two at one place the one that is named first.
		{"message M {\nX x = 0; }", 2, 3, api.ErrRange},
		{"message M { int32 x = 1;\nX x = 0; }", 2, 3, api.ErrRange},
		{"message M { reserved 0, 19000 to 19005; reserved 'x';\nint32 x = 19001; }", 2, 7, api.ErrRange},
		{"message M { int32 x = 1;\nint32 x = 2; }", 2, 7, api.ErrDup},
		{"message M { int32 x = 1;\nint32 y = 1; }", 2, 7, api.ErrDup},
		{"message M { int32 x = 1; reserved 1;\nX x = 2; }", 1, 38, api.ErrForm},
		{"message M { int32 x = 1; reserved 2;\nX x = 2; }", 2, 3, api.ErrDup},
		{"message M { int32 x = 2; reserved 'y';\nX y = 2; }", 2, 3, api.ErrDup},
		{"message M { int32 x = 1; int32 y = 2; int32 z = 3;\nX z = 4; int32 w = 5; X y = 2; }", 2, 3, api.ErrDup},
		{"message M { oneof o { int32 x = 1; }\nint32 x = 2; }", 2, 7, api.ErrDup},
		{"message M { oneof o { int32 x = 1; } oneof p {\nint32 y = 1; } }", 2, 7, api.ErrDup},
		{"message M { map<int32, int32> x = 1;\nmap<double, X> y = 1; }", 2, 16, api.ErrDup},
		{"message M { reserved 3;\nX x = 3; }", 2, 3, api.ErrForm},
		{"message M { reserved 1, 4 to 6, 9;\nint32 x = 4; }", 2, 7, api.ErrForm},
		{"message M { reserved 1, 4 to 6, 9;\nint32 x = 5; }", 2, 7, api.ErrForm},
		{"message M { reserved 1, 4 to 6, 9;\nint32 x = 6; }", 2, 7, api.ErrForm},
		{"message M { reserved 1, 4 to 6, 9;\nint32 x = 9; }", 2, 7, api.ErrForm},
		{"message M { reserved 7 to max;\nint32 x = 536870911; }", 2, 7, api.ErrForm},
		{"message M { reserved 7 to max; reserved 1;\nint32 x = 7; }", 2, 7, api.ErrForm},
		{"message M { reserved 7 to 7;\nint32 x = 7; }", 2, 7, api.ErrForm},
		{"message M { reserved 0 to 2147483647;\nint32 x = 7; }", 2, 7, api.ErrForm},
		{"message M { reserved 'a', 'x';\nX x = 1; }", 2, 3, api.ErrForm},
		{"message M { reserved 'a'; reserved \"x\";\nmap<float, int32> x = 1 [packed = true]; }", 2, 19, api.ErrForm},
		{"message M {\noneof o { int32 x = 1; }\nreserved 'x'; }", 2, 17, api.ErrForm},
		{"message M {\nX x = 1; }", 2, 3, api.ErrName},
		{"message M {\nmap<double, X> x = 1 [packed = true, key = a]; }", 2, 16, api.ErrName},
		{"message M {\nX x = 1 [packed = true, key = a]; }", 2, 3, api.ErrName},
		{"message M {\noneof o { X x = 1; } }", 2, 13, api.ErrName},
		{"message M {\nmap<M, M> x = 1; }", 2, 11, api.ErrKind},
		{"message M {\nM x = 1 [key = x]; }", 2, 3, api.ErrKind},
		{"message M {\nrepeated M x = 1 [packed = false, key = y]; int32 y = 2; }", 2, 12, api.ErrKind},
		{"message M {\nrepeated M x = 1 [key = z, packed = false]; int32 y = 2; }", 2, 12, api.ErrKind},
		{"message M {\nrepeated int32 x = 1 [packed = false, key = y]; int32 y = 2; }", 2, 16, api.ErrKind},

		// Oneofs.
		{"message\nM { oneof o { int32 x = 1; } oneof o { int32 y = 2; } }", 2, 1, api.ErrDup},
		{"message\nM { oneof o { int32 o = 1; } }", 2, 1, api.ErrDup},
		{"message\nM { oneof o { int32 x = 1; } int32 o = 2; }", 2, 1, api.ErrDup},
		{"message\nM { int32 p = 2; oneof o { int32 x = 1; } oneof p { int32 q = 3; } }", 2, 1, api.ErrDup},
		{"message M { message\nN { oneof a { int32 x = 1; } oneof b { int32 y = 2; } oneof a { int32 z = 3; } } }", 2, 1, api.ErrDup},

		// The first one in the order of the types.
		{"message M { X x = 1; }\nenum E { A = 1; }", 2, 6, api.ErrForm},
		{"message M {\nX x = 1; message N { X x = 0; } enum E { A = 1; } }", 2, 3, api.ErrName},
		{"message M { message N { X x = 0; }\nenum E { A = 1; } }", 2, 6, api.ErrForm},
		{"message M { message N {\nX x = 0; } } message O { Y y = 0; }", 2, 3, api.ErrRange},
		{"message M { message N { message O {\nX x = 0; } } } message P { Y y = 0; }", 2, 3, api.ErrRange},
		{"message\nM { oneof o { int32 o = 1; } message N { X x = 0; } }", 2, 1, api.ErrDup},
		{"enum E {\nA = 0; A = 2; } enum F { B = 1; }", 2, 8, api.ErrDup},
		{"message M { int32 a = 1;\nint32 b = 0; X c = 2; }", 2, 7, api.ErrRange},
		{"message M { int32 a = 1;\nX c = 2; int32 b = 0; }", 2, 3, api.ErrName},

		// A message's oneofs come behind all its fields, and ahead of other types.
		{"message M { oneof o { int32 o = 1; }\nint32 b = 0; }", 2, 7, api.ErrRange},
		{"message M { oneof o { int32 x = 1; } oneof o { int32 y = 2; }\nX b = 3; }", 2, 3, api.ErrName},
		{"message\nM { oneof o { int32 o = 1; } } message N { X x = 1; }", 2, 1, api.ErrDup},

		// Fields of keys come behind all of that.
		{"message M { repeated M m = 1 [key = x]; } message N {\nX x = 1; }", 2, 3, api.ErrName},
		{"message M { repeated M m = 1 [key = x];\nint32 n = 0; }", 2, 7, api.ErrRange},
		{"message M { repeated M m = 1 [key = x];\nrepeated int32 n = 2 [key = x]; }", 2, 16, api.ErrKind},
		{"message\nM { repeated M m = 1 [key = x]; oneof o { int32 o = 2; } }", 2, 1, api.ErrDup},
		{"message M { repeated M m = 1 [key = x]; } message\nN { oneof o { int32 o = 2; } }", 2, 1, api.ErrDup},
		{"message M {\nrepeated M m = 2 [key = x]; repeated M n = 1 [key = x]; }", 2, 12, api.ErrName},
		{"message M { int32 x = 3; repeated M m = 2 [key = x];\nrepeated M n = 1 [key = y]; message N { repeated M m = 1 [key = z]; } }", 2, 12, api.ErrName},
		{"message M { message N {\nrepeated M m = 1 [key = z]; } } message O { repeated M m = 1 [key = z]; }", 2, 12, api.ErrName},
	} {
		wrong(t, row.text, row.line, row.col, row.err)
	}
}

// P11.1: what looks like a fault and is none.
func TestNoFaults(t *testing.T) {
	for _, text := range []string{
		"message M { reserved 6 to 4; int32 x = 4; int32 y = 5; int32 z = 6; }",
		"message M { reserved 536870911 to 1, 2147483647 to 0; int32 max = 1; }",
		"message M { reserved 4 to 6; int32 x = 3; int32 y = 7; }",
		"message M { reserved 1 to 1; reserved 'x', ' y', ''; int32 y = 2; int32 X = 3; }",
		"message M { reserved 1, 1, 1 to 4; reserved 'x', 'x'; int32 y = 5; }",
		"message M { reserved 'o'; oneof o { int32 x = 1; } }",
		"message M { reserved 'k'; repeated N n = 1 [key = k]; } message N { int32 k = 1; }",
		"message M { reserved 1; reserved 'x'; message N { int32 x = 1; } }",
		"message M { int32 x = 1; message N { int32 x = 1; oneof M { int32 N = 2; } } oneof N { int32 M = 2; } }",
		"message M { oneof M { int32 int32 = 1; } enum x { x = 0; M = 1; } x x = 2; }",
		"enum E { A = 0; a = 1; B = -1; } enum F { A = 0; a = 1; B = -1; }",
		"message A { oneof o { int32 x = 1; } } message B { oneof o { int32 x = 1; } }",
	} {
		of(t, text)
	}
}

// fields is so many fields.
func fields(size int) []syntax.Field {
	var list []syntax.Field
	for i := range size {
		list = append(list, syntax.Field{Name: "f" + strconv.Itoa(i), Number: size - i, Label: 1, Type: "bool", Line: i + 1, Col: -i})
	}
	return list
}

// values is so many values.
func values(size int) []syntax.Value {
	var list []syntax.Value
	for i := range size {
		list = append(list, syntax.Value{Name: "v" + strconv.Itoa(i), Number: -i, Line: i + 1, Col: -i})
	}
	return list
}

// P11.1: as many parts as may be, and more.
func TestManyParts(t *testing.T) {
	message := func(list []syntax.Field) syntax.File {
		return syntax.File{Messages: []syntax.Message{{Name: "A", Fields: list, Line: 99, Col: 98}}}
	}
	enum := func(list []syntax.Value) syntax.File {
		return syntax.File{Enums: []syntax.Enum{{Name: "E", Values: list, Line: 99, Col: 98}}}
	}
	long := lexer.Fault{Line: 41, Col: -40, Err: api.ErrLong}
	for _, size := range []int{0, 1, 2, 39, 40} {
		if s, is := check(t, message(fields(size))); !is || s.Size() != size {
			t.Errorf("%d fields: %v", size, s)
		}
		if s, is := check(t, enum(values(size))); is != (size > 0) || is && len(s.Enums[0].Names) != size {
			t.Errorf("%d values: %v", size, s)
		}
	}
	for _, size := range []int{41, 42, 100, 100000} {
		s, err := Compile(message(fields(size)))
		checkFault(t, "many fields", s, err, long)
		s, err = Compile(enum(values(size)))
		checkFault(t, "many values", s, err, long)
	}

	// Field 41 is one too many, whatever else is wrong with it, and not behind another fault.
	list := fields(42)
	list[40] = syntax.Field{Name: "f1", Number: -1, Type: "X", Line: 41, Col: -40}
	s, err := Compile(message(list))
	checkFault(t, "a wrong field 41", s, err, long)
	list[39].Type = "X"
	s, err = Compile(message(list))
	checkFault(t, "a wrong field 40", s, err, lexer.Fault{Line: 40, Col: -39, Err: api.ErrName})
	check(t, message(list))

	// Value 41 is told to be there already first.
	row := values(42)
	row[40].Name = "v0"
	s, err = Compile(enum(row))
	checkFault(t, "a wrong value 41", s, err, lexer.Fault{Line: 41, Col: -40, Err: api.ErrDup})
	row[40].Name, row[41].Name = "v40", "v0"
	s, err = Compile(enum(row))
	checkFault(t, "a wrong value 42", s, err, long)
	row[39].Number = 0
	s, err = Compile(enum(row))
	checkFault(t, "a wrong value 40", s, err, lexer.Fault{Line: 40, Col: -39, Err: api.ErrDup})
	check(t, enum(row))
}

// P11.1: files that no text has.
func TestStrangeFiles(t *testing.T) {
	empty := syntax.File{Enums: []syntax.Enum{{Name: "E", Line: 3, Col: 4}}}
	s, err := Compile(empty)
	checkFault(t, "an enum without values", s, err, lexer.Fault{Line: 3, Col: 4, Err: api.ErrForm})

	names := []string{"", ".", "a.b", "\xff", "int32", strings.Repeat("x", 100)}
	for _, a := range names {
		for _, b := range names {
			check(t, syntax.File{
				Package: b,
				Messages: []syntax.Message{{
					Name: a, Oneofs: []string{b, a}, Names: []string{b}, Reserved: []syntax.Range{{From: math.MaxInt, To: math.MinInt}},
					Fields: []syntax.Field{
						{Name: a, Number: 1, Label: 1, Type: b, Oneof: math.MaxInt},
						{Name: "x", Number: 2, Label: 3, Type: a, Key: b, Oneof: math.MinInt},
						{Name: "y", Number: 3, Label: math.MaxInt, Type: "." + b + "." + a},
					},
				}},
				Enums: []syntax.Enum{{Name: b, Values: []syntax.Value{{Name: a}, {Name: b, Number: math.MinInt}}}},
			})
		}
	}

	// What a text can't have wrong is taken as it stands.
	odd := syntax.Field{Name: "", Number: 7, Label: -5, Type: "float", MapKey: "float", Oneof: -3, Line: math.MinInt, Col: math.MaxInt}
	s, err = Compile(syntax.File{Messages: []syntax.Message{{Fields: []syntax.Field{odd}}}})
	if want := (Field{Number: 7, Label: -5, Kind: kinds.Float, Oneof: -3}); err != nil || s.Messages[0].Fields[0] != want {
		t.Errorf("an odd field: %v, %v", s, err)
	}
	odd.Number = 0
	s, err = Compile(syntax.File{Messages: []syntax.Message{{Fields: []syntax.Field{odd}}}})
	checkFault(t, "an odd place", s, err, lexer.Fault{Line: math.MinInt, Col: math.MaxInt, Err: api.ErrRange})
}

// P11.1: lists by the hundred thousand, and messages as deep as there may be types.
func TestLong(t *testing.T) {
	const many = 200000
	x := syntax.Message{Name: "A", Fields: fields(40), Line: 5, Col: 6}
	for i := range many {
		x.Oneofs = append(x.Oneofs, "o"+strconv.Itoa(i))
		x.Names = append(x.Names, "n"+strconv.Itoa(i))
		x.Reserved = append(x.Reserved, syntax.Range{From: i, To: i - 1}, syntax.Range{From: 41 + i, To: math.MaxInt})
	}
	s, err := Compile(syntax.File{Messages: []syntax.Message{x}})
	if err != nil || len(s.Messages[0].Oneofs) != many || s.Size() != 40 {
		t.Fatalf("a long message: %v", err)
	}
	if !Same(s, s) {
		t.Error("a long schema isn't the same")
	}
	x.Oneofs[many-1] = "o7"
	s, err = Compile(syntax.File{Messages: []syntax.Message{x}})
	checkFault(t, "a oneof twice", s, err, lexer.Fault{Line: 5, Col: 6, Err: api.ErrDup})

	deep := syntax.Message{Name: "a", Fields: []syntax.Field{{Name: "x", Number: 1, Label: 1, Type: "a.a"}}}
	for range 38 {
		deep = syntax.Message{Name: "a", Messages: []syntax.Message{deep}}
	}
	deep.Fields = []syntax.Field{{Name: "x", Number: 1, Label: 1, Type: "a" + strings.Repeat(".a", 38)}}
	if s, is := check(t, syntax.File{Messages: []syntax.Message{deep}}); !is || s.Messages[0].Fields[0].Type != 38 {
		t.Error("deep messages")
	}
	for range 1 << 16 {
		deep = syntax.Message{Name: "a", Messages: []syntax.Message{deep}}
	}
	s, err = Compile(syntax.File{Messages: []syntax.Message{deep}})
	checkFault(t, "deeper messages", s, err, lexer.Fault{Err: api.ErrLong})
}

// P11.1: what isn't right for the layers below is told by them.
func TestOfWrongTexts(t *testing.T) {
	for _, row := range []struct {
		text      string
		line, col int
		err       error
	}{
		{"", 0, 0, api.ErrForm},
		{"message A { }", 1, 1, api.ErrForm},
		{head + "#", 1, 20, api.ErrForm},
		{head + "\nmessage A { int32 x = 0 }", 2, 25, api.ErrForm},
		{head + "\nmessage A { int32 x = 2147483648; }", 2, 23, api.ErrRange},
		{head + "message A { enum E { } }", 1, 41, api.ErrForm},
		{head + strings.Repeat("message A { ", 9), 1, 124, api.ErrDepth},
		{head + strings.Repeat(" ", 4001), 0, 0, api.ErrLong},
		{head + "message A { } message A", 0, 0, api.ErrForm},
		{head + "message " + strings.Repeat("a", 41), 1, 28, api.ErrLong},
		{"\xff", 1, 1, api.ErrForm},
	} {
		s, err := Of(row.text)
		checkFault(t, row.text, s, err, lexer.Fault{Line: row.line, Col: row.col, Err: row.err})
	}
	// The places of a whole text are Compile's.
	s, err := Of("syntax = \"proto3\";\n\tmessage A {\r\n  B b = 1;\n}")
	checkFault(t, "a text of lines", s, err, lexer.Fault{Line: 3, Col: 5, Err: api.ErrName})
}

// P11.1: what is asked of schemas.
func TestAsks(t *testing.T) {
	s := of(t, "package p; message A { int32 x = 9; string y = 2; message B { bool x = 1; } } enum E { x = 0; } message C { }")
	for _, row := range []struct {
		name string
		want int
		is   bool
	}{
		{"p.A", 0, true}, {"p.A.B", 1, true}, {"p.C", 2, true},
		{"p.E", 0, false}, {"A", 0, false}, {".p.A", 0, false}, {"p.a", 0, false}, {"", 0, false}, {"p.A.", 0, false}, {"B", 0, false}, {"p", 0, false},
	} {
		if got, is := s.Find(row.name); got != row.want || is != row.is {
			t.Errorf("Find(%q): %d, %v", row.name, got, is)
		}
	}
	x := Field{Name: "x", Number: 9, Label: syntax.Single, Kind: kinds.Int32}
	y := Field{Name: "y", Number: 2, Label: syntax.Single, Kind: kinds.String}
	inner := Field{Name: "x", Number: 1, Label: syntax.Single, Kind: kinds.Bool}
	for _, row := range []struct {
		message, number int
		name            string
		want            Field
	}{
		{0, 9, "x", x}, {0, 2, "y", y}, {1, 1, "x", inner},
		{0, 1, "", Field{}}, {0, 0, "X", Field{}}, {0, -1, "x ", Field{}}, {0, math.MaxInt, "p", Field{}}, {0, math.MinInt, "E", Field{}},
		{1, 9, "y", Field{}}, {2, 9, "x", Field{}}, {2, 0, "", Field{}},
		{3, 9, "x", Field{}}, {-1, 9, "x", Field{}}, {math.MaxInt, 9, "x", Field{}}, {math.MinInt, 9, "x", Field{}}, {1 << 32, 9, "x", Field{}},
	} {
		wanted := row.want != (Field{})
		if got, is := s.Field(row.message, row.number); got != row.want || is != wanted {
			t.Errorf("Field(%d, %d): %v, %v", row.message, row.number, got, is)
		}
		if got, is := s.Named(row.message, row.name); got != row.want || is != wanted {
			t.Errorf("Named(%d, %q): %v, %v", row.message, row.name, got, is)
		}
	}
	if s.Size() != 3 || (Schema{}).Size() != 0 || of(t, "enum E { a = 0; b = 1; }").Size() != 0 {
		t.Errorf("Size: %d", s.Size())
	}
	if at, is := (Schema{}).Find(""); at != 0 || is {
		t.Error("Find of no schema")
	}
	if f, is := (Schema{}).Field(0, 0); f != (Field{}) || is {
		t.Error("Field of no schema")
	}
	if f, is := (Schema{}).Named(0, ""); f != (Field{}) || is {
		t.Error("Named of no schema")
	}
}

// P11.1: what is asked of schemas that weren't compiled.
func TestAsksOfOthers(t *testing.T) {
	s := Schema{
		Messages: []Message{{Name: "", Fields: []Field{{Number: 9, Name: "b"}, {Number: -2, Name: ""}, {Number: 5, Name: "a", Kind: 1}}}, {Name: "x"}, {Name: "x"}},
		Enums:    []Enum{{Name: "e"}},
	}
	for _, f := range s.Messages[0].Fields {
		if got, is := s.Field(0, f.Number); got != f || !is {
			t.Errorf("Field(%d): %v, %v", f.Number, got, is)
		}
		if got, is := s.Named(0, f.Name); got != f || !is {
			t.Errorf("Named(%q): %v, %v", f.Name, got, is)
		}
	}
	if at, is := s.Find(""); at != 0 || !is {
		t.Errorf("Find of the empty text: %d, %v", at, is)
	}
	if at, is := s.Find("x"); at != 1 || !is {
		t.Errorf("Find of a name twice: %d, %v", at, is)
	}
	if _, is := s.Find("e"); is {
		t.Error("Find of an enum")
	}
	if s.Size() != 3 {
		t.Errorf("Size: %d", s.Size())
	}
}

// P11.1: schemas are the same if they are so all over.
func TestSame(t *testing.T) {
	const text = "package p; message A { oneof o { int32 x = 1; } repeated A y = 2 [key = z]; map<bool, E> w = 4; int32 z = 3; } message B { } enum E { a = 0; b = 1; } enum F { a = 0; }"
	changes := []func(s *Schema){
		func(s *Schema) { s.Messages = s.Messages[:1] },
		func(s *Schema) { s.Messages = append(s.Messages, Message{}) },
		func(s *Schema) { s.Messages = nil },
		func(s *Schema) { slices.Reverse(s.Messages) },
		func(s *Schema) { s.Messages[1].Name = "p.C" },
		func(s *Schema) { s.Messages[0].Fields = s.Messages[0].Fields[1:] },
		func(s *Schema) { s.Messages[0].Fields = s.Messages[0].Fields[:3] },
		func(s *Schema) { s.Messages[1].Fields = []Field{{}} },
		func(s *Schema) { slices.Reverse(s.Messages[0].Fields) },
		func(s *Schema) { s.Messages[0].Fields[3].Name = "v" },
		func(s *Schema) { s.Messages[0].Fields[3].Number++ },
		func(s *Schema) { s.Messages[0].Fields[3].Label++ },
		func(s *Schema) { s.Messages[0].Fields[3].Kind++ },
		func(s *Schema) { s.Messages[0].Fields[3].Type++ },
		func(s *Schema) { s.Messages[0].Fields[3].Packed = true },
		func(s *Schema) { s.Messages[0].Fields[1].Key++ },
		func(s *Schema) { s.Messages[0].Fields[3].MapKey++ },
		func(s *Schema) { s.Messages[0].Fields[0].Oneof++ },
		func(s *Schema) { s.Messages[0].Oneofs[0] = "p" },
		func(s *Schema) { s.Messages[0].Oneofs = nil },
		func(s *Schema) { s.Messages[1].Oneofs = []string{""} },
		func(s *Schema) { s.Enums = s.Enums[:1] },
		func(s *Schema) { s.Enums = append(s.Enums, Enum{}) },
		func(s *Schema) { slices.Reverse(s.Enums) },
		func(s *Schema) { s.Enums[1].Name = "p.G" },
		func(s *Schema) { s.Enums[1].Names[0] = "b" },
		func(s *Schema) { s.Enums[0].Names = s.Enums[0].Names[:1] },
		func(s *Schema) { s.Enums[0].Numbers[1] = -1 },
		func(s *Schema) { s.Enums[0].Numbers = append(s.Enums[0].Numbers, 0) },
		func(s *Schema) { slices.Reverse(s.Enums[0].Names) },
	}
	list := []Schema{of(t, text), {}}
	for _, change := range changes {
		s := of(t, text)
		change(&s)
		list = append(list, s)
	}
	for i, a := range list {
		for j, b := range list {
			if got, want := Same(a, b), reflect.DeepEqual(a, b); got != want || want != (i == j) {
				t.Errorf("Same of change %d and %d: %v", i-2, j-2, got)
			}
		}
	}
	// Lists without elements and nil are the same, and no field matters where it is written.
	if !Same(Schema{}, Schema{Messages: []Message{}, Enums: []Enum{}}) ||
		!Same(Schema{Messages: []Message{{}}, Enums: []Enum{{}}}, Schema{Messages: []Message{{Fields: []Field{}, Oneofs: []string{}}}, Enums: []Enum{{Names: []string{}, Numbers: []int{}}}}) {
		t.Error("lists without elements")
	}
	if !Same(of(t, "message A { int32 x = 1; bool y = 2; reserved 3; }"), of(t, "message A {\n bool y = 2; int32 x = 1; }")) {
		t.Error("fields in another order")
	}
}

// within tells whether a text stands in the memory of another one.
func within(s, of string) bool {
	at, begin := uintptr(unsafe.Pointer(unsafe.StringData(s))), uintptr(unsafe.Pointer(unsafe.StringData(of)))
	return s != "" && begin <= at && at < begin+uintptr(len(of))
}

// P11.1: what is answered shares no memory with what was given, nor with another answer.
func TestApart(t *testing.T) {
	const text = "message Aa { oneof oo { int32 xx = 2; } repeated Aa yy = 1 [key = zz]; string zz = 3; reserved 9; reserved 'rr'; } enum Ee { aa = 0; bb = 1; }"
	f := file(t, text)
	s, err := Compile(f)
	if err != nil {
		t.Fatal(err)
	}
	if !reflect.DeepEqual(f, file(t, text)) {
		t.Error("Compile changed its file")
	}
	given := []string{f.Messages[0].Name, f.Messages[0].Oneofs[0], f.Enums[0].Name, f.Enums[0].Values[0].Name, f.Enums[0].Values[1].Name}
	for _, x := range f.Messages[0].Fields {
		given = append(given, x.Name)
	}
	told := []string{s.Messages[0].Name, s.Messages[0].Oneofs[0], s.Enums[0].Name, s.Enums[0].Names[0], s.Enums[0].Names[1]}
	for _, x := range s.Messages[0].Fields {
		told = append(told, x.Name)
	}
	for _, a := range told {
		for _, b := range given {
			if within(a, b) {
				t.Errorf("%q is in the file's memory", a)
			}
		}
	}
	want := of(t, text)
	clear(f.Messages[0].Fields)
	clear(f.Messages[0].Oneofs)
	clear(f.Enums[0].Values)
	if !reflect.DeepEqual(s, want) {
		t.Error("the schema changed with its file")
	}

	f = file(t, text)
	one, _ := Compile(f)
	two, _ := Compile(f)
	s, _ = Compile(f)
	clear(one.Messages[0].Fields)
	clear(one.Messages[0].Oneofs)
	clear(one.Enums[0].Names)
	clear(one.Enums[0].Numbers)
	clear(one.Messages)
	if !reflect.DeepEqual(two, want) {
		t.Error("two answers share memory")
	}

	// What is asked changes nothing.
	for range 2 {
		x, _ := s.Field(0, 1)
		x.Number = 99
		s.Named(0, "yy")
		s.Find("Ee")
		s.Size()
		Same(s, want)
	}
	if !reflect.DeepEqual(s, want) || !reflect.DeepEqual(f, file(t, text)) {
		t.Error("what is asked changed a schema")
	}
	// No room behind a list is another one's.
	a := s.Messages[0]
	_ = append(a.Fields[:1], Field{Name: "X"})
	_ = append(append(a.Oneofs, "X"), "Y")
	_ = append(append(s.Enums[0].Names, "X"), "Y")
	if !Same(Schema{Enums: s.Enums}, Schema{Enums: want.Enums}) || a.Oneofs[0] != "oo" {
		t.Error("lists share room")
	}
}

// P11.2: fields rise by their numbers in whatever order they are written, and what stands beside them goes with them.
func TestFieldsRise(t *testing.T) {
	parts := []string{"int32 a = 1;", "repeated A b = 20 [key = a];", "map<string, B> c = 300;", "oneof o { B d = 4000; E g = 7; }", "optional E e = 50000;", "repeated E f = 600000 [packed = false];"}
	tail := " } message B { } message A2 { } enum D { z = 0; } enum E { z = 0; }"
	want := of(t, "message A { "+strings.Join(parts, " ")+tail)
	if got := want.Messages[0].Fields[2]; got.Name != "b" || got.Key != 1 {
		t.Errorf("the field b: %v", got)
	}
	var all func(ahead, rest []string)
	count := 0
	all = func(ahead, rest []string) {
		if len(rest) == 0 {
			count++
			s := of(t, "message A { "+strings.Join(ahead, " ")+tail)
			if !reflect.DeepEqual(s, want) {
				t.Fatalf("%q: %v", ahead, s)
			}
		}
		for i := range rest {
			all(append(slices.Clone(ahead), rest[i]), slices.Concat(rest[:i], rest[i+1:]))
		}
	}
	all(nil, parts)
	if count != 720 {
		t.Errorf("%d orders", count)
	}
}

// P11.2: the types that fields have are there, at the numbers that layer 9 gives them.
func TestTypesAreThere(t *testing.T) {
	s := of(t, "message A { message B { message C { A a = 1; B b = 2; C c = 3; D d = 4; E e = 5; F f = 6; H h = 7; } enum H { z = 0; } } enum F { z = 0; } } message D { } enum E { z = 0; } enum G { z = 0; }")
	at, is := s.Find("A.B.C")
	if !is || at != 2 {
		t.Fatalf("A.B.C: %d, %v", at, is)
	}
	for i, want := range []string{"A", "A.B", "A.B.C", "D", "E", "A.F", "A.B.H"} {
		f := s.Messages[at].Fields[i]
		got := s.Messages[f.Type].Name
		if f.Kind == kinds.Enum {
			got = s.Enums[f.Type].Name
		}
		if got != want {
			t.Errorf("the field %s is of the type %s, want %s", f.Name, got, want)
		}
	}
	// As many types as there may be, each of which holds the last one.
	var text strings.Builder
	for i := range 39 {
		text.WriteString("message M" + strconv.Itoa(i) + " { M38 m = 2; E e = 1; }")
	}
	s = of(t, text.String()+"enum E { z = 0; }")
	for _, m := range s.Messages {
		if m.Fields[0].Kind != kinds.Enum || m.Fields[1].Type != 38 {
			t.Fatalf("%v", m)
		}
	}
}
