package kinds

import "redline/varint"

// word is 64 bits: a number, or what says it on the wire.
type word uint64

// code is how numbers of a kind become bits, and bits such numbers.
type code struct {
	fit, back func(word) word
}

// codeOf is the code of a number's kind.
func codeOf(kind int) code {
	switch kind {
	case Int32, Enum:
		return code{fit: word.signed, back: word.same}
	case Uint32, Fixed32, Float:
		return code{fit: word.low, back: word.same}
	case Sint32:
		return code{fit: word.zagLow, back: word.zig}
	case Sint64:
		return code{fit: word.zag, back: word.zig}
	case Sfixed32:
		return code{fit: word.signed, back: word.low}
	case Bool:
		return code{fit: word.truth, back: word.same}
	}
	return code{fit: word.same, back: word.same}
}

func (w word) same() word { return w }

// low is the lowest 32 bits.
func (w word) low() word { return word(uint32(w)) }

// signed is the lowest 32 bits, with a sign.
func (w word) signed() word { return word(int32(w)) }

// truth is 1 of all but 0.
func (w word) truth() word { return min(w, 1) }

func (w word) zig() word { return word(varint.Zig(int64(w))) }

func (w word) zag() word { return word(varint.Zag(uint64(w))) }

func (w word) zagLow() word { return w.low().zag() }
