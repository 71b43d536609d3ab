package kinds

import (
	"math"
	"math/big"
	"math/rand/v2"
	"testing"
)

// How numbers of a kind stand in 64 bits, and in a record's Bits.
const (
	notNumbers = iota
	signed32
	signed32Low // whose Bits are its lowest 32
	signed64
	unsigned32
	unsigned64
	zigzag32
	zigzag64
	truths
)

// told is what the chapter tells of a kind.
type told struct {
	kind int
	name string
	wire int
	form int
	keys bool
}

// chapter is what it tells of all kinds, by their numbers.
var chapter = []told{
	{1, "double", 1, unsigned64, false},
	{2, "float", 5, unsigned32, false},
	{3, "int32", 0, signed32, true},
	{4, "int64", 0, signed64, true},
	{5, "uint32", 0, unsigned32, true},
	{6, "uint64", 0, unsigned64, true},
	{7, "sint32", 0, zigzag32, true},
	{8, "sint64", 0, zigzag64, true},
	{9, "fixed32", 5, unsigned32, true},
	{10, "fixed64", 1, unsigned64, true},
	{11, "sfixed32", 5, signed32Low, true},
	{12, "sfixed64", 1, signed64, true},
	{13, "bool", 0, truths, true},
	{14, "string", 2, notNumbers, true},
	{15, "bytes", 2, notNumbers, false},
	{16, "enum", 0, signed32, false},
	{17, "message", 2, notNumbers, false},
}

// noKinds are numbers of no kind: at the bounds, and such whose lowest bits are those of a kind.
func noKinds() []int {
	list := []int{math.MinInt, math.MinInt + 3, math.MinInt32, -256 + 3, -17, -3, -2, -1, 0, 18, 19, 20, 31, 32, 100, math.MaxInt32, math.MaxInt}
	for _, x := range chapter {
		for _, more := range []int{32, 64, 128, 256, 1 << 16, 1 << 32} {
			list = append(list, x.kind+more)
		}
		list = append(list, -x.kind)
	}
	return list
}

// eachNumber calls with what is told of each kind that is a number.
func eachNumber(call func(x told)) {
	for _, x := range chapter {
		if x.form != notNumbers {
			call(x)
		}
	}
}

// power is a power of two.
func power(n int) *big.Int { return new(big.Int).Lsh(big.NewInt(1), uint(n)) }

// complement is 64 bits, as two's complement.
func complement(n *big.Int) uint64 { return new(big.Int).Mod(n, power(64)).Uint64() }

// number is what 64 bits are, if they have a sign or none.
func number(bits uint64, sign bool) *big.Int {
	n := new(big.Int).SetUint64(bits)
	if sign && n.Cmp(power(63)) >= 0 {
		n.Sub(n, power(64))
	}
	return n
}

// lowest is the lowest 32 bits of others, if they have a sign or none.
func lowest(bits uint64, sign bool) *big.Int {
	n := new(big.Int).Mod(number(bits, false), power(32))
	if sign && n.Cmp(power(31)) >= 0 {
		n.Sub(n, power(32))
	}
	return n
}

// unzigzag turns 0, 1, 2, 3, 4 .. to 0, -1, 1, -2, 2 ..
func unzigzag(n *big.Int) *big.Int {
	half, odd := new(big.Int).DivMod(n, big.NewInt(2), new(big.Int))
	if odd.Sign() != 0 {
		return half.Sub(big.NewInt(-1), half)
	}
	return half
}

// zigzag turns 0, -1, 1, -2, 2 .. to 0, 1, 2, 3, 4 ..
func zigzag(n *big.Int) *big.Int {
	twice := new(big.Int).Mul(n, big.NewInt(2))
	if n.Sign() < 0 {
		return twice.Sub(big.NewInt(-1), twice)
	}
	return twice
}

// modelFit is what Bits say, in the chapter's words.
func modelFit(form int, bits uint64) uint64 {
	switch form {
	case signed32, signed32Low:
		return complement(lowest(bits, true))
	case unsigned32:
		return complement(lowest(bits, false))
	case zigzag32:
		return complement(unzigzag(lowest(bits, false)))
	case zigzag64:
		return complement(unzigzag(number(bits, false)))
	case truths:
		if bits != 0 {
			return 1
		}
		return 0
	case signed64, unsigned64:
		return bits
	}
	return 0
}

// modelBack is a number's Bits, in the chapter's words.
func modelBack(form int, n uint64) uint64 {
	switch form {
	case zigzag32, zigzag64:
		return complement(zigzag(number(n, true)))
	case signed32Low:
		return complement(lowest(n, false))
	case notNumbers:
		return 0
	}
	return n
}

// modelRight tells whether a number is within the bounds that the chapter tells.
func modelRight(form int, n uint64) bool {
	switch form {
	case signed32, signed32Low, zigzag32:
		x := number(n, true)
		return x.Cmp(new(big.Int).Neg(power(31))) >= 0 && x.Cmp(power(31)) < 0
	case unsigned32:
		return number(n, false).Cmp(power(32)) < 0
	case truths:
		return n == 0 || n == 1
	}
	return form != notNumbers
}

// words are the 64 bits that matter: around each power of two and what it lacks of 2^64, each pair of bits, and some by chance.
func words() []uint64 {
	var list []uint64
	for i := range 64 {
		edge := uint64(1) << i
		for near := range uint64(7) {
			list = append(list, edge+near-3, -edge+near-3)
		}
		for j := range i {
			list = append(list, edge|1<<j, ^(edge | 1<<j))
		}
	}
	r := rand.New(rand.NewPCG(10, 1))
	for range 4000 {
		list = append(list, r.Uint64(), r.Uint64()>>r.IntN(64), -(r.Uint64() >> r.IntN(64)), r.Uint64()<<32)
	}
	return list
}

// check holds all that is reckoned of a kind and a word against the model.
func check(t *testing.T, kind, form int, w uint64) {
	t.Helper()
	if got, want := Fit(kind, w), modelFit(form, w); got != want {
		t.Fatalf("Fit(%d, %#x): %#x, want %#x", kind, w, got, want)
	}
	if got, want := Back(kind, w), modelBack(form, w); got != want {
		t.Fatalf("Back(%d, %#x): %#x, want %#x", kind, w, got, want)
	}
	if got, want := Right(kind, w), modelRight(form, w); got != want {
		t.Fatalf("Right(%d, %#x): %v, want %v", kind, w, got, want)
	}
}
