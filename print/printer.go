package print

import (
	"slices"
	"strconv"

	"redline/kinds"
	"redline/schema"
	"redline/syntax"
)

// line takes the next line, in parts that stand without gaps.
type line func(parts ...string)

// within takes lines that stand within brackets.
func within(put line) line {
	return func(parts ...string) { put(append([]string{"  "}, parts...)...) }
}

// block tells a head, what stands in its brackets, and the closing one.
func block(put line, body func(in line), head ...string) {
	put(append(head, " {")...)
	body(within(put))
	put("}")
}

// printer tells the lines of a schema.
type printer struct {
	of              schema.Schema
	messages, enums map[int][]int // the numbers of those that stand in each message, and in none
}

func newPrinter(s schema.Schema) *printer {
	p := &printer{of: s, messages: map[int][]int{}, enums: map[int][]int{}}
	for i, m := range s.Messages {
		home := Home(s, m.Name)
		p.messages[home] = append(p.messages[home], i)
	}
	for i, e := range s.Enums {
		home := Home(s, e.Name)
		p.enums[home] = append(p.enums[home], i)
	}
	return p
}

// file tells all lines.
func (p *printer) file(put line) {
	put(`syntax = "proto3";`)
	if name, _, _ := cut(p.outmost()); name != "" {
		put("package ", name, ";")
	}
	p.types(put, none)
}

// outmost is the full name of a type without a home: the one that tells the package.
func (p *printer) outmost() string {
	if list := p.enums[none]; len(list) > 0 {
		return p.of.Enums[list[0]].Name
	}
	if list := p.messages[none]; len(list) > 0 {
		return p.of.Messages[list[0]].Name
	}
	return ""
}

// types tells the enums of a home, and the messages.
func (p *printer) types(put line, home int) {
	for _, i := range p.enums[home] {
		p.enum(put, p.of.Enums[i])
	}
	for _, i := range p.messages[home] {
		p.message(put, i)
	}
}

func (p *printer) enum(put line, e schema.Enum) {
	_, name, _ := cut(e.Name)
	block(put, func(in line) {
		for i, value := range e.Names {
			in(value, " = ", strconv.Itoa(at(e.Numbers, i)), ";")
		}
	}, "enum ", name)
}

func (p *printer) message(put line, number int) {
	m := p.of.Messages[number]
	_, name, _ := cut(m.Name)
	block(put, func(in line) {
		p.fields(in, m, 0)
		for i, oneof := range m.Oneofs {
			block(in, func(in line) { p.fields(in, m, i+1) }, "oneof ", oneof)
		}
		p.types(in, number)
	}, "message ", name)
}

// fields tells the fields of a message that stand in a oneof, or, of the number 0, in none.
func (p *printer) fields(put line, m schema.Message, oneof int) {
	for _, f := range m.Fields {
		if f.Oneof == oneof {
			put(p.fieldParts(f)...)
		}
	}
}

func (p *printer) fieldParts(f schema.Field) []string {
	var parts []string
	switch f.Label {
	case syntax.Repeated:
		parts = append(parts, "repeated ")
	case syntax.Optional:
		parts = append(parts, "optional ")
	}
	parts = append(parts, typeParts(p.of, f)...)
	parts = append(parts, " ", f.Name, " = ", strconv.Itoa(f.Number))
	if f.Label == syntax.Repeated && kinds.Number(f.Kind) && !f.Packed {
		parts = append(parts, " [packed = false]")
	}
	if f.Key != 0 {
		key, _ := p.of.Field(f.Type, f.Key)
		parts = append(parts, " [key = ", key.Name, "]")
	}
	return append(parts, ";")
}

// typeParts is the parts of a field's type's text.
func typeParts(s schema.Schema, f schema.Field) []string {
	parts := nameParts(s, f)
	if f.Label == syntax.Map {
		parts = slices.Concat([]string{"map<", kinds.Name(f.MapKey), ", "}, parts, []string{">"})
	}
	return parts
}

// nameParts is the parts of the name of a field's type, or of its values' type.
func nameParts(s schema.Schema, f schema.Field) []string {
	switch f.Kind {
	case kinds.Enum:
		return []string{".", at(s.Enums, f.Type).Name}
	case kinds.Message:
		return []string{".", at(s.Messages, f.Type).Name}
	}
	return []string{kinds.Name(f.Kind)}
}

// at is the part of a number of a list, or a zero one: a field may be another schema's.
func at[T any](list []T, number int) T {
	var part T
	if number >= 0 && number < len(list) {
		part = list[number]
	}
	return part
}
