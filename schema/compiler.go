package schema

import (
	"cmp"
	"slices"
	"strings"

	"redline/api"
	"redline/kinds"
	"redline/lexer"
	"redline/scopes"
	"redline/syntax"
)

// compiler makes a file's schema, type by type.
type compiler struct {
	table           *scopes.Table
	messages, enums []string       // the types' full names, by their numbers
	schema          Schema         // of the types that have been come to
	later           []func() error // what can be asked only when all types are there
}

func newCompiler(f syntax.File) (*compiler, error) {
	table, err := scopes.Of(f)
	if err != nil {
		return nil, err
	}
	return &compiler{table: table, messages: table.Messages(), enums: table.Enums()}, nil
}

// run compiles all types of a file.
func (c *compiler) run(f syntax.File) error {
	if err := walk(f.Enums, f.Messages, c.enum, c.message); err != nil {
		return err
	}
	for _, ask := range c.later {
		if err := ask(); err != nil {
			return err
		}
	}
	return nil
}

// walk calls with each type, in the order of layer 9's table, up to the first fault.
func walk(enums []syntax.Enum, messages []syntax.Message, enum func(e syntax.Enum) error, message func(m syntax.Message) error) error {
	for _, e := range enums {
		if err := enum(e); err != nil {
			return err
		}
	}
	for _, m := range messages {
		if err := message(m); err != nil {
			return err
		}
		if err := walk(m.Enums, m.Messages, enum, message); err != nil {
			return err
		}
	}
	return nil
}

// enum compiles the next enum.
func (c *compiler) enum(e syntax.Enum) error {
	if len(e.Values) == 0 || e.Values[0].Number != 0 {
		return fault(e.Line, e.Col, api.ErrForm)
	}
	done := Enum{Name: c.enums[len(c.schema.Enums)]}
	for i, v := range e.Values {
		if slices.Contains(done.Names, v.Name) || slices.Contains(done.Numbers, v.Number) {
			return fault(v.Line, v.Col, api.ErrDup)
		}
		if i == api.MaxParts {
			return fault(v.Line, v.Col, api.ErrLong)
		}
		// Cloned, as an answer shares no memory with what was given.
		done.Names = append(done.Names, strings.Clone(v.Name))
		done.Numbers = append(done.Numbers, v.Number)
	}
	c.schema.Enums = append(c.schema.Enums, done)
	return nil
}

// message compiles the next message, but for its keys.
func (c *compiler) message(m syntax.Message) error {
	at := len(c.schema.Messages)
	done := Message{Name: c.messages[at]}
	for i, f := range m.Fields {
		d := draft{of: m, at: i, from: f}
		d.kind, d.number, d.known = c.typeOf(done.Name, f.Type)
		if err := d.check(); err != nil {
			return err
		}
		if f.Key != "" {
			c.later = append(c.later, func() error { return c.key(at, f) })
		}
		done.Fields = append(done.Fields, d.field())
	}
	if !apart(m) {
		return fault(m.Line, m.Col, api.ErrDup)
	}
	for _, name := range m.Oneofs {
		done.Oneofs = append(done.Oneofs, strings.Clone(name))
	}
	slices.SortFunc(done.Fields, func(a, b Field) int { return cmp.Compare(a.Number, b.Number) })
	c.schema.Messages = append(c.schema.Messages, done)
	return nil
}

// typeOf is the kind and the type's number that a name means in a scope, and whether it means any.
func (c *compiler) typeOf(scope, name string) (kind, number int, known bool) {
	if kind, is := kinds.Of(name); is {
		return kind, 0, true
	}
	x, is := c.table.Look(scope, name)
	switch {
	case !is:
		return 0, 0, false
	case x.Enum:
		return kinds.Enum, x.Index, true
	}
	return kinds.Message, x.Index, true
}

// key finds the number of the key that a field of a message tells.
func (c *compiler) key(message int, from syntax.Field) error {
	fields := c.schema.Messages[message].Fields
	at := slices.IndexFunc(fields, func(f Field) bool { return f.Number == from.Number })
	key, is := c.schema.Named(fields[at].Type, from.Key)
	if !is || !tells(key) {
		return fault(from.Line, from.Col, api.ErrName)
	}
	fields[at].Key = key.Number
	return nil
}

// tells tells whether elements may be told apart by a field.
func tells(f Field) bool {
	switch f.Kind {
	case kinds.Message, kinds.Double, kinds.Float, kinds.Bytes:
		return false
	}
	return f.Label == syntax.Single && f.Oneof == 0
}

// apart tells whether the oneofs of a message have unlike names, which no field of it has.
func apart(m syntax.Message) bool {
	taken := map[string]bool{}
	for _, f := range m.Fields {
		taken[f.Name] = true
	}
	for _, name := range m.Oneofs {
		if taken[name] {
			return false
		}
		taken[name] = true
	}
	return true
}

func fault(line, col int, err error) error {
	return &lexer.Fault{Line: line, Col: col, Err: err}
}
