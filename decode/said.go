package decode

import (
	"redline/api"
	"redline/kinds"
	"redline/octets"
	"redline/record"
	"redline/runes"
	"redline/tag"
	"redline/value"
	"redline/varint"
)

// said is the number, or the text, that a record says of a kind.
func said(kind int, r record.Record) (value.Value, error) {
	if kinds.Number(kind) {
		return value.Num(kinds.Fit(kind, r.Bits)), nil
	}
	if kind == kinds.String && !runes.Right(r.Text) {
		return value.Value{}, api.ErrRune
	}
	return value.Str(r.Text), nil
}

// nought tells whether a number, or a text, is 0, or empty.
func nought(v value.Value) bool { return v.Number == 0 && v.Text == "" }

// row is the numbers that a packed record's Text says of a kind.
func row(kind int, text string) ([]value.Value, error) {
	bits, err := ofWire(kinds.Wire(kind))([]byte(text))
	if err != nil {
		return nil, err
	}
	list := make([]value.Value, len(bits))
	for i, n := range bits {
		list[i] = value.Num(kinds.Fit(kind, n))
	}
	return list, nil
}

// ofWire is what reads the Bits of a row's numbers, by their wire kind.
func ofWire(wire int) func(b []byte) ([]uint64, error) {
	switch wire {
	case tag.Fixed64:
		return rowOf((*octets.Reader).Fixed64)
	case tag.Fixed32:
		return rowOf((*octets.Reader).Fixed32)
	}
	return varint.All
}

// rowOf is what reads, to the end, such numbers as next reads one of.
func rowOf[N uint32 | uint64](next func(*octets.Reader) (N, error)) func(b []byte) ([]uint64, error) {
	return func(b []byte) ([]uint64, error) {
		var list []uint64
		for r := octets.NewReader(b); r.Left() > 0; {
			n, err := next(r)
			if err != nil {
				return nil, err
			}
			list = append(list, uint64(n))
		}
		return list, nil
	}
}
