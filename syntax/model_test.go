package syntax

import (
	"errors"
	"reflect"
	"slices"
	"strings"
	"testing"

	"redline/api"
	"redline/lexer"
)

// The model is the chapter's grammar, rule by rule: each way in which tokens fit is gone, and the farthest token
// that was asked for is the first one that doesn't fit.
type model struct {
	list []lexer.Token
	far  int // the farthest token that was asked for
	deep int // the name of a message that is too deep, if it is the farthest one
}

// node is a token, or what a rule has found.
type node struct {
	rule  string
	token lexer.Token
	kids  []node
}

// found is a way in which a rule fits: what it has found, and where that ends.
type found struct {
	end  int
	kids []node
}

type rule func(m *model, at int) []found

func one(is func(t lexer.Token) bool) rule {
	return func(m *model, at int) []found {
		m.far = max(m.far, at)
		if at == len(m.list) || !is(m.list[at]) {
			return nil
		}
		return []found{{at + 1, []node{{token: m.list[at]}}}}
	}
}

// word is a token of a text; one in quotes has another one.
func word(text string) rule {
	return one(func(t lexer.Token) bool { return t.Text == text && t.Kind != lexer.Text })
}

func ofKind(kind int) rule {
	return one(func(t lexer.Token) bool { return t.Kind == kind })
}

func seq(rules ...rule) rule {
	return func(m *model, at int) []found {
		ways := []found{{end: at}}
		for _, r := range rules {
			var longer []found
			for _, way := range ways {
				for _, f := range r(m, way.end) {
					longer = append(longer, found{f.end, slices.Concat(way.kids, f.kids)})
				}
			}
			ways = longer
		}
		return ways
	}
}

func alt(rules ...rule) rule {
	return func(m *model, at int) []found {
		var ways []found
		for _, r := range rules {
			ways = append(ways, r(m, at)...)
		}
		return ways
	}
}

func wished(r rule) rule { return alt(seq(), r) }

// any number of what a rule finds.
func many(r rule) rule {
	return func(m *model, at int) []found {
		ways := []found{{end: at}}
		for i := 0; i < len(ways); i++ {
			for _, f := range r(m, ways[i].end) {
				ways = append(ways, found{f.end, slices.Concat(ways[i].kids, f.kids)})
			}
		}
		return ways
	}
}

// commas is one or more of what a rule finds, with commas between.
func commas(r rule) rule { return seq(r, many(seq(word(","), r))) }

// other asks, without asking for a token, that none of some words comes next.
func other(words ...string) rule {
	return func(m *model, at int) []found {
		if at < len(m.list) && m.list[at].Kind != lexer.Text && slices.Contains(words, m.list[at].Text) {
			return nil
		}
		return []found{{end: at}}
	}
}

// called makes one node of all that rules find.
func called(name string, rules ...rule) rule {
	return func(m *model, at int) []found {
		ways := seq(rules...)(m, at)
		for i := range ways {
			ways[i].kids = []node{{rule: name, kids: ways[i].kids}}
		}
		return ways
	}
}

var (
	modelName   = ofKind(lexer.Word)
	modelNumber = ofKind(lexer.Int)
	modelDotted = seq(modelName, many(seq(word("."), modelName)))
	modelType   = called("type", wished(word(".")), modelDotted)
	modelRest   = seq(modelName, word("="), modelNumber, alt(seq(), seq(word("["), modelOptions(false, false))), word(";"))
	modelEnd    = many(word(";"))
	modelPlain  = called("field", modelType, modelRest)
	modelOneof  = called("oneof", word("oneof"), modelName, word("{"), modelEnd, modelPlain, many(alt(modelPlain, word(";"))), word("}"))
	modelValue  = called("value", modelName, word("="), wished(word("-")), modelNumber, word(";"))
	modelEnum   = called("enum", word("enum"), modelName, word("{"), modelEnd, modelValue, many(alt(modelValue, word(";"))), word("}"))
	modelRange  = called("range", modelNumber, wished(seq(word("to"), alt(modelNumber, word("max")))))
	modelNames  = called("name", ofKind(lexer.Text))
	modelList   = seq(word("reserved"), alt(commas(modelRange), commas(modelNames)), word(";"))
	modelMap    = called("map", word("map"), word("<"), modelName, word(","), modelType, word(">"), modelRest)
	modelField  = alt(
		called("field", word("repeated"), modelType, modelRest),
		called("field", word("optional"), modelType, modelRest),
		seq(other("message", "enum", "oneof", "reserved", "repeated", "optional"), modelPlain),
	)
	modelFile = seq(
		word("syntax"), word("="), one(func(t lexer.Token) bool { return t.Kind == lexer.Text && t.Text == "proto3" }), word(";"),
		wished(called("package", word("package"), called("type", modelDotted), word(";"))),
		many(alt(modelMessage(0), modelEnum, word(";"))),
	)
)

// modelOptions is options that go on: some of them are there already.
func modelOptions(packed, key bool) rule {
	return func(m *model, at int) []found {
		var ways []rule
		if !packed {
			ways = append(ways, seq(called("packed", word("packed"), word("="), alt(word("true"), word("false"))), modelBehind(true, key)))
		}
		if !key {
			full := one(func(t lexer.Token) bool { return t.Kind == lexer.Word && t.Text != "" })
			empty := one(func(t lexer.Token) bool { return t.Kind == lexer.Word && t.Text == "" })
			ways = append(ways, seq(called("key", word("key"), word("="), full), modelBehind(packed, true)))
			ways = append(ways, seq(word("key"), word("="), empty, modelBehind(packed, false)))
		}
		if len(ways) == 0 {
			m.far = max(m.far, at)
		}
		return alt(ways...)(m, at)
	}
}

func modelBehind(packed, key bool) rule {
	return func(m *model, at int) []found {
		return alt(word("]"), seq(word(","), modelOptions(packed, key)))(m, at)
	}
}

func modelMessage(within int) rule {
	return func(m *model, at int) []found {
		part := alt(modelField, modelMap, modelOneof, modelMessage(within+1), modelEnum, modelList, word(";"))
		name := modelName
		if within == 8 {
			name = tooDeep
		}
		return called("message", word("message"), name, word("{"), many(part), word("}"))(m, at)
	}
}

// tooDeep stands for the name of a message that must not be.
func tooDeep(m *model, at int) []found {
	if len(modelName(m, at)) > 0 {
		m.deep = at
	}
	return nil
}

// modelParse is Parse in the chapter's words.
func modelParse(list []lexer.Token) (File, lexer.Fault) {
	m := model{list: list, deep: -1}
	for _, way := range modelFile(&m, 0) {
		if way.end == len(list) {
			return builtFile(way.kids), lexer.Fault{}
		}
	}
	fault := lexer.Fault{Err: api.ErrForm}
	if m.far < len(list) {
		fault.Line, fault.Col = list[m.far].Line, list[m.far].Col
	}
	if m.far == m.deep {
		fault.Err = api.ErrDepth
	}
	return File{}, fault
}

func builtFile(kids []node) File {
	var f File
	for _, kid := range kids {
		switch kid.rule {
		case "package":
			f.Package = joined(kid.kids[1])
		case "message":
			f.Messages = append(f.Messages, builtMessage(kid.kids))
		case "enum":
			f.Enums = append(f.Enums, builtEnum(kid.kids))
		}
	}
	return f
}

func builtMessage(kids []node) Message {
	m := Message{Name: kids[1].token.Text, Line: kids[1].token.Line, Col: kids[1].token.Col}
	for _, kid := range kids {
		switch kid.rule {
		case "field", "map":
			m.Fields = append(m.Fields, builtField(kid, 0))
		case "oneof":
			m.Oneofs = append(m.Oneofs, kid.kids[1].token.Text)
			for _, inner := range kid.kids {
				if inner.rule == "field" {
					m.Fields = append(m.Fields, builtField(inner, len(m.Oneofs)))
				}
			}
		case "message":
			m.Messages = append(m.Messages, builtMessage(kid.kids))
		case "enum":
			m.Enums = append(m.Enums, builtEnum(kid.kids))
		case "range":
			m.Reserved = append(m.Reserved, builtRange(kid.kids))
		case "name":
			m.Names = append(m.Names, kid.kids[0].token.Text)
		}
	}
	return m
}

func builtField(field node, oneof int) Field {
	f := Field{Label: Single, Oneof: oneof}
	at := slices.IndexFunc(field.kids, func(n node) bool { return n.rule == "type" })
	f.Type = joined(field.kids[at])
	switch {
	case field.rule == "map":
		f.Label, f.MapKey = Map, field.kids[2].token.Text
		at++ // the closing bracket
	case at == 1 && field.kids[0].token.Text == "repeated":
		f.Label = Repeated
	case at == 1:
		f.Label = Optional
	}
	name := field.kids[at+1].token
	f.Name, f.Line, f.Col = name.Text, name.Line, name.Col
	f.Number = field.kids[at+3].token.Number
	for _, kid := range field.kids {
		switch kid.rule {
		case "packed":
			f.Packed = map[string]int{"true": 1, "false": 2}[kid.kids[2].token.Text]
		case "key":
			f.Key = kid.kids[2].token.Text
		}
	}
	return f
}

func builtEnum(kids []node) Enum {
	e := Enum{Name: kids[1].token.Text, Line: kids[1].token.Line, Col: kids[1].token.Col}
	for _, kid := range kids {
		if kid.rule == "value" {
			name, number := kid.kids[0].token, kid.kids[2].token.Number
			if len(kid.kids) == 5 {
				number = -kid.kids[3].token.Number
			}
			e.Values = append(e.Values, Value{name.Text, number, name.Line, name.Col})
		}
	}
	return e
}

func builtRange(kids []node) Range {
	from := kids[0].token.Number
	switch {
	case len(kids) == 1:
		return Range{from, from}
	case kids[2].token.Text == "max":
		return Range{from, 1<<29 - 1}
	}
	return Range{from, kids[2].token.Number}
}

// joined is a type's tokens without gaps.
func joined(of node) string {
	text := ""
	for _, kid := range of.kids {
		text += kid.token.Text
	}
	return text
}

// told is a list of tokens, for a failed test.
func told(list []lexer.Token) string {
	var text []string
	for _, t := range list {
		s := t.Text
		if t.Kind == lexer.Text {
			s = `"` + s + `"`
		}
		text = append(text, s)
	}
	return strings.Join(text, " ")
}

// checkFault holds an answer against the one fault that is asked for.
func checkFault(t *testing.T, what string, f File, err error, want lexer.Fault) {
	t.Helper()
	got, is := err.(*lexer.Fault)
	if !is || got == nil || got.Line != want.Line || got.Col != want.Col || !errors.Is(err, want.Err) {
		t.Fatalf("%s: %#v, want %d:%d, %v", what, err, want.Line, want.Col, want.Err)
	}
	if !reflect.DeepEqual(f, File{}) {
		t.Fatalf("%s: %v beside an error", what, f)
	}
}

// check holds Parse of tokens against the model, and answers whether they are right.
func check(t *testing.T, list []lexer.Token) bool {
	t.Helper()
	before := slices.Clone(list)
	want, fault := modelParse(list)
	got, err := Parse(list)
	if !slices.Equal(list, before) {
		t.Fatalf("Parse(%s) changed its tokens", told(before))
	}
	if fault.Err != nil {
		checkFault(t, "Parse of "+told(list), got, err, fault)
		return false
	}
	if err != nil || !reflect.DeepEqual(got, want) {
		t.Fatalf("Parse(%s): %v, %v, want %v", told(list), got, err, want)
	}
	return true
}
