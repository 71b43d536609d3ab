package decode

import (
	"slices"

	"redline/api"
	"redline/hold"
	"redline/kinds"
	"redline/record"
	"redline/schema"
	"redline/syntax"
	"redline/tag"
	"redline/value"
)

// reader is what all messages that are read together have in common.
type reader struct {
	schema  schema.Schema
	deepest int // how deep messages may lie within one another
}

// draft is a message that is being read. Records change it in place, and it becomes a value only at the end: so a record costs no more where much has been read ahead of it.
type draft struct {
	reader  *reader
	message int
	depth   int
	parts   map[int]part // by the fields' numbers
	rest    []byte
}

// part is what a field has so far.
type part struct {
	whole value.Value // of a map, the pairs as they came: of one key the last one counts
	inner *draft      // a message that has been read into, in place of whole
}

// newDraft is a message's value that is to be read into: None is as one without fields and Rest.
func newDraft(r *reader, message, depth int, v value.Value) *draft {
	d := &draft{reader: r, message: message, depth: depth, parts: map[int]part{}, rest: []byte(v.Rest)}
	for _, x := range v.Fields {
		// Clipped, as what comes behind a list must not be written into the room that the caller has there.
		x.Value.List, x.Value.Pairs = slices.Clip(x.Value.List), slices.Clip(x.Value.Pairs)
		d.parts[x.Number] = part{whole: x.Value}
	}
	return d
}

// each hands out the records of bytes, one behind the other, up to the first error.
func each(b []byte, take func(r record.Record) error) error {
	for len(b) > 0 {
		r, size, err := record.Parse(b)
		if err != nil {
			return err
		}
		if err := take(r); err != nil {
			return err
		}
		b = b[size:]
	}
	return nil
}

// take reads one record.
func (d *draft) take(r record.Record) error {
	if !hold.Known(d.reader.schema, d.message, r.Tag) {
		d.rest = append(d.rest, r.Raw...)
		return nil
	}
	f, _ := d.reader.schema.Field(d.message, r.Tag.Number)
	d.makeWay(f)
	return ofLabel(f.Label)(d, f, r)
}

// makeWay lets the other fields of a field's oneof go.
func (d *draft) makeWay(f schema.Field) {
	if f.Oneof == 0 {
		return
	}
	for _, other := range d.reader.schema.Messages[d.message].Fields {
		if other.Oneof == f.Oneof && other.Number != f.Number {
			delete(d.parts, other.Number)
		}
	}
}

// ofLabel is what reads a record of a field, by its label.
func ofLabel(label int) func(d *draft, f schema.Field, r record.Record) error {
	switch label {
	case syntax.Repeated:
		return (*draft).list
	case syntax.Map:
		return (*draft).pair
	}
	return (*draft).single
}

func (d *draft) single(f schema.Field, r record.Record) error {
	if f.Kind == kinds.Message {
		return d.into(f, r.Text)
	}
	x, err := said(f.Kind, r)
	if err != nil {
		return err
	}
	if hold.Plain(f) && nought(x) {
		delete(d.parts, f.Number)
		return nil
	}
	d.parts[f.Number] = part{whole: x}
	return nil
}

// into reads a Text into the message that a field has, or into a new one.
func (d *draft) into(f schema.Field, text string) error {
	p := d.parts[f.Number]
	if p.inner == nil {
		inner, err := d.within(f.Type, p.whole)
		if err != nil {
			return err
		}
		p = part{inner: inner}
		d.parts[f.Number] = p
	}
	return each([]byte(text), p.inner.take)
}

// within is a draft of a message that lies within this one.
func (d *draft) within(message int, v value.Value) (*draft, error) {
	if d.depth >= d.reader.deepest {
		return nil, api.ErrDepth
	}
	return newDraft(d.reader, message, d.depth+1, v), nil
}

func (d *draft) list(f schema.Field, r record.Record) error {
	more, err := d.members(f, r)
	if err != nil {
		return err
	}
	d.add(f, value.Value{Kind: value.List, List: more})
	return nil
}

// members is the values that a record of a list says.
func (d *draft) members(f schema.Field, r record.Record) ([]value.Value, error) {
	switch {
	case f.Kind == kinds.Message:
		return d.messages(f, r.Text)
	case kinds.Number(f.Kind) && r.Tag.Wire == tag.Bytes:
		return row(f.Kind, r.Text)
	}
	x, err := said(f.Kind, r)
	return []value.Value{x}, err
}

// messages is a list of the one message that a Text says by itself.
func (d *draft) messages(f schema.Field, text string) ([]value.Value, error) {
	inner, err := d.within(f.Type, value.Value{})
	if err != nil {
		return nil, err
	}
	if err := each([]byte(text), inner.take); err != nil {
		return nil, err
	}
	return []value.Value{inner.done()}, nil
}

// pair reads a map's entry.
func (d *draft) pair(f schema.Field, r record.Record) error {
	e := newEntry(d, f)
	if err := each([]byte(r.Text), e.take); err != nil {
		return err
	}
	if err := e.complete(); err != nil {
		return err
	}
	d.add(f, value.Value{Kind: value.Map, Pairs: []value.Pair{e.pair()}})
	return nil
}

// add puts a list's values, or a map's pairs, behind those that a field has. Of none nothing comes: no list is without values.
func (d *draft) add(f schema.Field, more value.Value) {
	if len(more.List) == 0 && len(more.Pairs) == 0 {
		return
	}
	has := d.parts[f.Number].whole
	more.List = append(has.List, more.List...)
	more.Pairs = append(has.Pairs, more.Pairs...)
	d.parts[f.Number] = part{whole: more}
}

// done is the value that was read.
func (d *draft) done() value.Value {
	v := value.Value{Kind: value.Message, Rest: string(d.rest)}
	// The schema's fields rise by their numbers, as a value's must.
	for _, f := range d.reader.schema.Messages[d.message].Fields {
		if p, is := d.parts[f.Number]; is {
			v.Fields = append(v.Fields, value.Field{Number: f.Number, Value: p.done()})
		}
	}
	return v
}

func (p part) done() value.Value {
	switch {
	case p.inner != nil:
		return p.inner.done()
	case p.whole.Kind == value.Map:
		return value.Value{Kind: value.Map, Pairs: lastOfKeys(p.whole.Pairs)}
	}
	return p.whole
}
