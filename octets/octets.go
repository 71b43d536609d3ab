// Package octets is layer 1: bytes that are read and written. See shared/doc/01-octets.md.
package octets

import (
	"bytes"
	"slices"

	"redline/api"
)

// The bytes of numbers that are put and read.
const (
	width32 = 4
	width64 = 8
)

// Reader reads bytes, from a place on.
type Reader struct {
	data []byte
	at   int
}

// NewReader is a reader at the beginning.
func NewReader(b []byte) *Reader {
	// A copy, so that what a caller writes into b later on is never read.
	return &Reader{data: Join(b)}
}

// Left is how many bytes are behind the place.
func (r *Reader) Left() int { return len(r.data) - r.at }

// At is the place.
func (r *Reader) At() int { return r.at }

// Byte is the next byte.
func (r *Reader) Byte() (byte, error) {
	piece, err := r.next(1)
	if err != nil {
		return 0, err
	}
	return piece[0], nil
}

// Take is the next n bytes, apart from those that the reader has.
func (r *Reader) Take(n int) ([]byte, error) {
	piece, err := r.next(n)
	if err != nil {
		return nil, err
	}
	return Join(piece), nil
}

// Fixed32 is the number of the next four bytes, the lowest first.
func (r *Reader) Fixed32() (uint32, error) {
	n, err := r.number(width32)
	return uint32(n), err
}

// Fixed64 is the number of the next eight bytes, the lowest first.
func (r *Reader) Fixed64() (uint64, error) {
	return r.number(width64)
}

// Skip goes on by n bytes.
func (r *Reader) Skip(n int) error {
	_, err := r.next(n)
	return err
}

// next goes on by n bytes. What it answers is the reader's own: no caller of the package may get it.
func (r *Reader) next(n int) ([]byte, error) {
	if n < 0 {
		return nil, api.ErrRange
	}
	if n > r.Left() {
		return nil, api.ErrShort
	}
	piece := r.data[r.at : r.at+n]
	r.at += n
	return piece, nil
}

// number reads a number of so many bytes, the lowest first.
func (r *Reader) number(width int) (uint64, error) {
	piece, err := r.next(width)
	if err != nil {
		return 0, err
	}
	var n uint64
	for i := range width {
		n |= uint64(piece[i]) << (8 * i)
	}
	return n, nil
}

// Put32 is the bytes, and a number's four bytes behind them, the lowest first.
func Put32(b []byte, n uint32) []byte { return put(b, uint64(n), width32) }

// Put64 is the bytes, and a number's eight bytes behind them, the lowest first.
func Put64(b []byte, n uint64) []byte { return put(b, n, width64) }

// put joins rather than appends: the room behind b is the caller's.
func put(b []byte, n uint64, width int) []byte {
	out := Join(b, make([]byte, width))
	for i := range width {
		out[len(b)+i] = byte(n >> (8 * i))
	}
	return out
}

// Join is all parts, one behind the other, in memory of its own.
func Join(parts ...[]byte) []byte { return slices.Concat(parts...) }

// Equal tells whether bytes are the same.
func Equal(a, b []byte) bool { return bytes.Equal(a, b) }

// Compare is -1, 0 or 1: byte by byte, where a beginning of the other one comes first.
func Compare(a, b []byte) int { return bytes.Compare(a, b) }
