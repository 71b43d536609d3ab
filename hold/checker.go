package hold

import (
	"slices"

	"redline/api"
	"redline/kinds"
	"redline/record"
	"redline/runes"
	"redline/schema"
	"redline/syntax"
	"redline/value"
)

// checker asks what the messages of a schema hold, of values that are right: that is asked once for the whole value, not in each message of it.
type checker struct{ schema schema.Schema }

// asks is all that is asked of a message's value, in this order.
func asks() []func(c checker, message int, v value.Value) error {
	return []func(c checker, message int, v value.Value) error{checker.fields, checker.oneofs, checker.rest}
}

func (c checker) message(message int, v value.Value) error {
	for _, ask := range asks() {
		if err := ask(c, message, v); err != nil {
			return err
		}
	}
	return nil
}

func (c checker) fields(message int, v value.Value) error {
	for _, x := range v.Fields {
		f, is := c.schema.Field(message, x.Number)
		if !is {
			return api.ErrTag
		}
		if err := ofLabel(f.Label)(c, f, x.Value); err != nil {
			return err
		}
	}
	return nil
}

// oneofs asks whether no two fields stand in one oneof.
func (c checker) oneofs(message int, v value.Value) error {
	standing := map[int]int{} // how many fields stand in each oneof
	for _, x := range v.Fields {
		if f, _ := c.schema.Field(message, x.Number); f.Oneof != 0 {
			standing[f.Oneof]++
		}
	}
	for _, n := range standing {
		if n > 1 {
			return api.ErrDup
		}
	}
	return nil
}

// rest asks whether a Rest is records, none of which is known.
func (c checker) rest(message int, v value.Value) error {
	list, err := record.All([]byte(v.Rest))
	if err != nil {
		return err
	}
	if slices.ContainsFunc(list, func(r record.Record) bool { return Known(c.schema, message, r.Tag) }) {
		return api.ErrTag
	}
	return nil
}

// ofLabel is what is asked of the value of a field with a label.
func ofLabel(label int) func(c checker, f schema.Field, v value.Value) error {
	switch label {
	case syntax.Repeated:
		return checker.list
	case syntax.Map:
		return checker.pairs
	}
	return checker.single
}

func (c checker) single(f schema.Field, v value.Value) error {
	if Plain(f) && nought(v) {
		return api.ErrKind
	}
	return c.part(f, v)
}

func (c checker) list(f schema.Field, v value.Value) error {
	if v.Kind != value.List {
		return api.ErrKind
	}
	for _, x := range v.List {
		if err := c.part(f, x); err != nil {
			return err
		}
	}
	return nil
}

func (c checker) pairs(f schema.Field, v value.Value) error {
	if v.Kind != value.Map {
		return api.ErrKind
	}
	key := schema.Field{Kind: f.MapKey}
	for _, p := range v.Pairs {
		if err := c.part(key, p.Key); err != nil {
			return err
		}
		if err := c.part(f, p.Value); err != nil {
			return err
		}
	}
	return nil
}

// part asks whether a part fits a field's kind.
func (c checker) part(f schema.Field, v value.Value) error {
	switch {
	case v.Kind == value.Number && kinds.Right(f.Kind, v.Number):
		return nil
	case v.Kind == value.Text && f.Kind == kinds.Bytes:
		return nil
	case v.Kind == value.Text && f.Kind == kinds.String:
		return textRight(v.Text)
	case v.Kind == value.Message && f.Kind == kinds.Message:
		return c.message(f.Type, v)
	}
	return api.ErrKind
}

func textRight(text string) error {
	if !runes.Right(text) {
		return api.ErrRune
	}
	return nil
}

// nought tells whether a value is a number 0, or an empty text.
func nought(v value.Value) bool {
	return v.Kind == value.Number && v.Number == 0 || v.Kind == value.Text && v.Text == ""
}
