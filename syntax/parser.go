package syntax

import (
	"strings"

	"redline/api"
	"redline/lexer"
)

// dialect is what the first text of a file says.
const dialect = "proto3"

// What packed that is told makes of Packed.
const (
	packedTrue  = 1
	packedFalse = 2
)

// parser goes through tokens, from the first one on.
type parser struct {
	list []lexer.Token
	at   int
}

// file reads all tokens.
func (p *parser) file() (File, error) {
	var f File
	if err := p.syntax(); err != nil {
		return File{}, err
	}
	if p.take("package") {
		name, err := p.dotted()
		if err != nil {
			return File{}, err
		}
		f.Package = name
		if err := p.want(";"); err != nil {
			return File{}, err
		}
	}
	for p.at < len(p.list) {
		if err := p.declaration(&f); err != nil {
			return File{}, err
		}
	}
	return f, nil
}

// syntax reads the line that each file begins with.
func (p *parser) syntax() error {
	if err := p.want("syntax", "="); err != nil {
		return err
	}
	t, err := p.token(lexer.Text)
	if err != nil {
		return err
	}
	if t.Text != dialect {
		return fault(t, api.ErrForm)
	}
	return p.want(";")
}

// declaration reads a part of a file.
func (p *parser) declaration(f *File) error {
	switch {
	case p.take(";"):
		return nil
	case p.take("message"):
		return p.message(&f.Messages, 0)
	case p.take("enum"):
		return p.enum(&f.Enums)
	}
	return p.misfit()
}

// message reads a message within so many others, from its name on, and adds it to a list.
func (p *parser) message(list *[]Message, within int) error {
	name, err := p.token(lexer.Word)
	if err != nil {
		return err
	}
	if within >= api.MaxNest {
		return fault(name, api.ErrDepth)
	}
	m := Message{Name: name.Text, Line: name.Line, Col: name.Col}
	err = p.block(0, func() error { return p.part(&m, within) })
	if err != nil {
		return err
	}
	*list = append(*list, m)
	return nil
}

// part reads a part of a message that is within so many others.
func (p *parser) part(m *Message, within int) error {
	switch {
	case p.take("message"):
		return p.message(&m.Messages, within+1)
	case p.take("enum"):
		return p.enum(&m.Enums)
	case p.take("oneof"):
		return p.oneof(m)
	case p.take("reserved"):
		return p.reserved(m)
	case p.take("repeated"):
		return p.field(m, Field{Label: Repeated})
	case p.take("optional"):
		return p.field(m, Field{Label: Optional})
	case p.take("map", "<"):
		return p.mapField(m)
	}
	return p.field(m, Field{Label: Single})
}

// field reads a field from its type on, and adds it to a message with what is known of it already.
func (p *parser) field(m *Message, f Field) error {
	var err error
	if f.Type, err = p.typeName(); err != nil {
		return err
	}
	return p.named(m, f)
}

// mapField reads a map from behind its opening bracket on, and adds it to a message.
func (p *parser) mapField(m *Message) error {
	f := Field{Label: Map}
	key, err := p.token(lexer.Word)
	if err != nil {
		return err
	}
	f.MapKey = key.Text
	if err := p.want(","); err != nil {
		return err
	}
	if f.Type, err = p.typeName(); err != nil {
		return err
	}
	if err := p.want(">"); err != nil {
		return err
	}
	return p.named(m, f)
}

// named reads a field or a map from its name on, and adds it to a message.
func (p *parser) named(m *Message, f Field) error {
	name, err := p.token(lexer.Word)
	if err != nil {
		return err
	}
	f.Name, f.Line, f.Col = name.Text, name.Line, name.Col
	if err := p.want("="); err != nil {
		return err
	}
	number, err := p.token(lexer.Int)
	if err != nil {
		return err
	}
	f.Number = number.Number
	if p.take("[") {
		if err := p.row("]", func() error { return p.option(&f) }); err != nil {
			return err
		}
	}
	if err := p.want(";"); err != nil {
		return err
	}
	m.Fields = append(m.Fields, f)
	return nil
}

// option reads an option that a field doesn't have yet.
func (p *parser) option(f *Field) error {
	switch {
	case f.Packed == 0 && p.take("packed"):
		return p.packed(f)
	case f.Key == "" && p.take("key"):
		return p.key(f)
	}
	return p.misfit()
}

func (p *parser) packed(f *Field) error {
	if err := p.want("="); err != nil {
		return err
	}
	switch {
	case p.take("true"):
		f.Packed = packedTrue
	case p.take("false"):
		f.Packed = packedFalse
	default:
		return p.misfit()
	}
	return nil
}

func (p *parser) key(f *Field) error {
	if err := p.want("="); err != nil {
		return err
	}
	name, err := p.token(lexer.Word)
	if err != nil {
		return err
	}
	f.Key = name.Text
	return nil
}

// oneof reads a oneof from its name on, and adds it and its fields to a message.
func (p *parser) oneof(m *Message) error {
	name, err := p.token(lexer.Word)
	if err != nil {
		return err
	}
	m.Oneofs = append(m.Oneofs, name.Text)
	f := Field{Label: Single, Oneof: len(m.Oneofs)}
	return p.block(1, func() error { return p.field(m, f) })
}

// enum reads an enum from its name on, and adds it to a list.
func (p *parser) enum(list *[]Enum) error {
	name, err := p.token(lexer.Word)
	if err != nil {
		return err
	}
	e := Enum{Name: name.Text, Line: name.Line, Col: name.Col}
	err = p.block(1, func() error { return p.value(&e) })
	if err != nil {
		return err
	}
	*list = append(*list, e)
	return nil
}

// value reads a value of an enum.
func (p *parser) value(e *Enum) error {
	name, err := p.token(lexer.Word)
	if err != nil {
		return err
	}
	if err := p.want("="); err != nil {
		return err
	}
	sign := 1
	if p.take("-") {
		sign = -1
	}
	number, err := p.token(lexer.Int)
	if err != nil {
		return err
	}
	e.Values = append(e.Values, Value{Name: name.Text, Number: sign * number.Number, Line: name.Line, Col: name.Col})
	return p.want(";")
}

// reserved reads a reserved list from behind its first word on: one of texts, or of numbers.
func (p *parser) reserved(m *Message) error {
	if p.ahead(0).Kind == lexer.Text {
		return p.row(";", func() error { return p.reservedName(m) })
	}
	return p.row(";", func() error { return p.reservedRange(m) })
}

func (p *parser) reservedName(m *Message) error {
	name, err := p.token(lexer.Text)
	if err != nil {
		return err
	}
	m.Names = append(m.Names, name.Text)
	return nil
}

func (p *parser) reservedRange(m *Message) error {
	from, err := p.token(lexer.Int)
	if err != nil {
		return err
	}
	to := from.Number
	if p.take("to") {
		if to, err = p.upper(); err != nil {
			return err
		}
	}
	m.Reserved = append(m.Reserved, Range{From: from.Number, To: to})
	return nil
}

// upper reads the end of a range.
func (p *parser) upper() (int, error) {
	if p.take("max") {
		return api.MaxNumber, nil
	}
	to, err := p.token(lexer.Int)
	return to.Number, err
}

// typeName reads a type, and answers it without gaps.
func (p *parser) typeName() (string, error) {
	point := ""
	if p.take(".") {
		point = "."
	}
	name, err := p.dotted()
	return point + name, err
}

// dotted reads a dotted name, and answers it without gaps.
func (p *parser) dotted() (string, error) {
	var name strings.Builder
	for {
		word, err := p.token(lexer.Word)
		if err != nil {
			return "", err
		}
		name.WriteString(word.Text)
		if !p.take(".") {
			return name.String(), nil
		}
		name.WriteString(".")
	}
}

// block reads what stands in brackets: at least so many parts, and semicolons ahead of, between and behind them.
func (p *parser) block(least int, part func() error) error {
	if err := p.want("{"); err != nil {
		return err
	}
	for parts := 0; parts < least || !p.take("}"); {
		if p.take(";") {
			continue
		}
		if err := part(); err != nil {
			return err
		}
		parts++
	}
	return nil
}

// row reads one part or more, with commas between, and what stands behind them.
func (p *parser) row(end string, part func() error) error {
	for {
		if err := part(); err != nil {
			return err
		}
		if !p.take(",") {
			return p.want(end)
		}
	}
}

// want passes over the next tokens, which must have these texts.
func (p *parser) want(texts ...string) error {
	for _, text := range texts {
		if !p.take(text) {
			return p.misfit()
		}
	}
	return nil
}

// take passes over the next tokens, if they have these texts, and tells whether they do.
func (p *parser) take(texts ...string) bool {
	for i, text := range texts {
		// What a text says isn't its bytes, which have quotes around it.
		if t := p.ahead(i); t.Kind == lexer.Text || t.Text != text {
			return false
		}
	}
	p.at += len(texts)
	return true
}

// token passes over the next token, which must be of a kind.
func (p *parser) token(kind int) (lexer.Token, error) {
	t := p.ahead(0)
	if t.Kind != kind {
		return lexer.Token{}, p.misfit()
	}
	p.at++
	// Cloned, as an answer shares no memory with what was given.
	t.Text = strings.Clone(t.Text)
	return t, nil
}

// misfit is the fault of the next token.
func (p *parser) misfit() error { return fault(p.ahead(0), api.ErrForm) }

// ahead is the token that stands so many behind the next one.
// Behind the end it is one without anything: it fits nowhere, and its place is that of tokens that end too early.
func (p *parser) ahead(n int) lexer.Token {
	if p.at+n >= len(p.list) {
		return lexer.Token{}
	}
	return p.list[p.at+n]
}

func fault(t lexer.Token, err error) error {
	return &lexer.Fault{Line: t.Line, Col: t.Col, Err: err}
}
