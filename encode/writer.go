package encode

import (
	"slices"

	"redline/kinds"
	"redline/record"
	"redline/schema"
	"redline/syntax"
	"redline/tag"
	"redline/value"
	"redline/varint"
)

// The fields of a map's entries.
const (
	keyNumber   = 1
	valueNumber = 2
)

// writer writes values that are held, from the end to the beginning: so a text's length is known when its turn comes, and no byte is moved once for each message around it.
type writer struct {
	schema schema.Schema
	// back is what is written, the last byte first.
	back []byte
}

// bytes is what is written, the first byte first: nothing may be written any more then.
func (w *writer) bytes() []byte {
	slices.Reverse(w.back)
	return w.back
}

// ahead writes bytes ahead of all that is written.
func (w *writer) ahead(b []byte) {
	at := len(w.back)
	w.back = append(w.back, b...)
	slices.Reverse(w.back[at:])
}

// record writes one of a field's number. There is no error to tell: compiled fields have right numbers, and parts that fit are right records.
func (w *writer) record(number, wire int, bits uint64, text string) {
	b, _ := record.Put(record.Record{Tag: tag.Tag{Number: number, Wire: wire}, Bits: bits, Text: text})
	w.ahead(b)
}

// within writes a record of Bytes, whose Text is what inner writes.
func (w *writer) within(number int, inner func()) {
	behind := len(w.back)
	inner()
	w.ahead(varint.Put(nil, uint64(len(w.back)-behind)))
	head, _ := tag.Put(tag.Tag{Number: number, Wire: tag.Bytes})
	w.ahead(head)
}

func (w *writer) message(message int, v value.Value) {
	w.ahead([]byte(v.Rest))
	for _, x := range slices.Backward(v.Fields) {
		f, _ := w.schema.Field(message, x.Number)
		ofLabel(f)(w, f, x.Value)
	}
}

// ofLabel is what writes a field's value, by its label.
func ofLabel(f schema.Field) func(w *writer, f schema.Field, v value.Value) {
	switch {
	case f.Packed:
		return (*writer).packed
	case f.Label == syntax.Repeated:
		return (*writer).list
	case f.Label == syntax.Map:
		return (*writer).pairs
	}
	return (*writer).part
}

func (w *writer) packed(f schema.Field, v value.Value) {
	numbers := make([]uint64, len(v.List))
	for i, x := range v.List {
		numbers[i] = x.Number
	}
	w.record(f.Number, tag.Bytes, 0, string(Row(f.Kind, numbers)))
}

func (w *writer) list(f schema.Field, v value.Value) {
	for _, x := range slices.Backward(v.List) {
		w.part(f, x)
	}
}

func (w *writer) pairs(f schema.Field, v value.Value) {
	key := schema.Field{Number: keyNumber, Kind: f.MapKey}
	of := schema.Field{Number: valueNumber, Kind: f.Kind, Type: f.Type}
	for _, p := range slices.Backward(v.Pairs) {
		w.within(f.Number, func() {
			w.part(of, p.Value)
			w.part(key, p.Key)
		})
	}
}

// part writes one part of a field, by its kind alone, whatever the label is.
func (w *writer) part(f schema.Field, v value.Value) {
	switch v.Kind {
	case value.Number:
		w.record(f.Number, kinds.Wire(f.Kind), kinds.Back(f.Kind, v.Number), "")
	case value.Text:
		w.record(f.Number, tag.Bytes, 0, v.Text)
	case value.Message:
		w.within(f.Number, func() { w.message(f.Type, v) })
	}
}
