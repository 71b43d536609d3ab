package crc

import (
	"errors"
	"hash/crc32"
	"math"
	"slices"
	"strings"
	"testing"

	"redline/api"
)

// modelSum is the sum in the chapter's words, bit by bit.
func modelSum(b []byte) uint32 {
	sum := uint32(math.MaxUint32)
	for _, x := range b {
		sum = sum&^0xff | uint32(byte(sum)^x)
		for range 8 {
			low := sum & 1
			sum >>= 1
			if low == 1 {
				sum ^= 0xEDB88320
			}
		}
	}
	return ^sum
}

// modelSeal is sealed bytes in the chapter's words.
func modelSeal(b []byte) []byte {
	sum := modelSum(b)
	return append(slices.Clone(b), byte(sum), byte(sum>>8), byte(sum>>16), byte(sum>>24))
}

// modelOpen is Open in the chapter's words.
func modelOpen(b []byte) ([]byte, error) {
	if len(b) < 4 {
		return nil, api.ErrShort
	}
	body := slices.Clone(b[:len(b)-4])
	if string(modelSeal(body)) != string(b) {
		return nil, api.ErrSum
	}
	return body, nil
}

func sameError(a, b error) bool {
	return errors.Is(a, b) && (a == nil) == (b == nil)
}

// chance answers numbers that look like chance, the same ones each time.
func chance(seed uint64) func() uint64 {
	return func() uint64 {
		seed = seed*6364136223846793005 + 1442695040888963407
		return seed>>32 ^ seed<<32
	}
}

func mixed(size int, seed uint64) []byte {
	next := chance(seed)
	b := make([]byte, size)
	for i := range b {
		b[i] = byte(next() >> 7)
	}
	return b
}

// checkBytes holds all calls of bytes against the model, and that the bytes stay.
func checkBytes(t *testing.T, b []byte) {
	t.Helper()
	before := string(b)
	if got, want := Sum(b), modelSum(b); got != want {
		t.Fatalf("Sum(%x): %#x, want %#x", b, got, want)
	}
	if got, want := More(0, b), modelSum(b); got != want {
		t.Fatalf("More(0, %x): %#x, want %#x", b, got, want)
	}
	sealed := Seal(b)
	if want := modelSeal(b); string(sealed) != string(want) {
		t.Fatalf("Seal(%x): %x, want %x", b, sealed, want)
	}
	checkOpen(t, sealed)
	checkOpen(t, b)
	if string(b) != before {
		t.Fatalf("%x became %x", before, b)
	}
}

// checkOpen holds Open and Right of bytes against the model, and that the bytes stay.
func checkOpen(t *testing.T, b []byte) {
	t.Helper()
	before := string(b)
	got, err := Open(b)
	want, wantErr := modelOpen(b)
	if string(got) != string(want) || !sameError(err, wantErr) || err != nil && got != nil {
		t.Fatalf("Open(%x): %x, %v, want %x, %v", b, got, err, want, wantErr)
	}
	if Right(b) != (wantErr == nil) {
		t.Fatalf("Right(%x): %v, but Open: %v", b, Right(b), wantErr)
	}
	if string(b) != before {
		t.Fatalf("%x became %x", before, b)
	}
}

// P5.1, P5.2: of all rows of up to two bytes.
func TestSmallRows(t *testing.T) {
	checkBytes(t, nil)
	checkBytes(t, []byte{})
	for first := range 256 {
		checkBytes(t, []byte{byte(first)})
		for second := range 256 {
			checkBytes(t, []byte{byte(first), byte(second)})
		}
	}
}

// P5.1, P5.2: of rows of all small lengths, of one byte again and again and of mixed ones.
func TestRowsOfLengths(t *testing.T) {
	for size := range 300 {
		for _, x := range []byte{0, 1, 0x0f, 0x10, 0x7f, 0x80, 0xff} {
			checkBytes(t, []byte(strings.Repeat(string([]byte{x}), size)))
		}
		for seed := range uint64(5) {
			checkBytes(t, mixed(size, seed))
		}
	}
}

// P5.1: sums that are written out.
func TestSumWrittenOut(t *testing.T) {
	for _, row := range []struct {
		text string
		want uint32
	}{
		{"", 0},
		{"\x00", 0xD202EF8D},
		{"\xff", 0xFF000000},
		{"a", 0xE8B7BE43},
		{"abc", 0x352441C2},
		{"\x00\x00\x00\x00", 0x2144DF1C},
		{"\xff\xff\xff\xff", 0xFFFFFFFF},
		{"123456789", 0xCBF43926},
		{"The quick brown fox jumps over the lazy dog", 0x414FA339},
	} {
		if got := Sum([]byte(row.text)); got != row.want {
			t.Errorf("Sum(%q): %#x, want %#x", row.text, got, row.want)
		}
	}
}

// P5.1: parts are summed one behind the other, wherever they are cut, and empty ones change nothing.
func TestSumOfParts(t *testing.T) {
	for _, parts := range [][][]byte{nil, {}, {nil}, {{}, nil, {}}} {
		if got := Sum(parts...); got != 0 {
			t.Errorf("Sum(%v): %#x", parts, got)
		}
	}
	b := mixed(40, 7)
	want := modelSum(b)
	for i := range len(b) + 1 {
		for j := i; j <= len(b); j++ {
			if got := Sum(b[:i], b[i:j], b[j:]); got != want {
				t.Fatalf("Sum, cut at %d and %d: %#x, want %#x", i, j, got, want)
			}
			if got := Sum(nil, b[:i], []byte{}, b[i:j], nil, b[j:], nil); got != want {
				t.Fatalf("Sum, cut at %d and %d, with empty parts: %#x, want %#x", i, j, got, want)
			}
		}
	}
	single := make([][]byte, len(b))
	for i := range b {
		single[i] = b[i : i+1]
	}
	if got := Sum(single...); got != want {
		t.Fatalf("Sum, byte by byte: %#x, want %#x", got, want)
	}
	if Sum(b[:20], b[20:]) == Sum(b[20:], b[:20]) {
		t.Fatal("Sum: the parts' order doesn't matter")
	}
}

// P5.1: a sum is gone on with, wherever the bytes are cut, and no more bytes leave it.
func TestMore(t *testing.T) {
	b := mixed(60, 11)
	for i := range len(b) + 1 {
		for j := i; j <= len(b); j++ {
			want := modelSum(b[:j])
			if got := More(Sum(b[:i]), b[i:j]); got != want {
				t.Fatalf("More, from %d to %d: %#x, want %#x", i, j, got, want)
			}
		}
	}
	if got := More(Sum(), []byte("123456789")); got != 0xCBF43926 {
		t.Fatalf("More of the sum of no bytes: %#x", got)
	}
	if got := More(0xCBF43926, nil); got != 0xCBF43926 {
		t.Fatalf("More of no bytes: %#x", got)
	}
}

// P5.1: each number is the sum of some four bytes, so each can be gone on with.
func TestMoreOfAnySum(t *testing.T) {
	next := chance(3)
	sums := []uint32{0, 1, 2, 0x7fffffff, 0x80000000, 0xffffffff, 0xfffffffe, 0xEDB88320, ^uint32(0xEDB88320)}
	for bit := range 32 {
		sums = append(sums, 1<<bit, ^(uint32(1) << bit))
	}
	for range 200 {
		sums = append(sums, uint32(next()))
	}
	for _, sum := range sums {
		for size := range 9 {
			b := mixed(size, uint64(sum))
			if got, want := More(sum, b), crc32.Update(sum, crc32.IEEETable, b); got != want {
				t.Fatalf("More(%#x, %x): %#x, want %#x", sum, b, got, want)
			}
		}
	}
}

// P5.1: of many bytes, and of many parts.
func TestLong(t *testing.T) {
	b := mixed(1<<20, 5)
	want := crc32.ChecksumIEEE(b)
	if got := Sum(b); got != want {
		t.Fatalf("Sum: %#x, want %#x", got, want)
	}
	var parts [][]byte
	for part := range slices.Chunk(b, 3) {
		parts = append(parts, part)
	}
	if got := Sum(parts...); got != want {
		t.Fatalf("Sum of %d parts: %#x, want %#x", len(parts), got, want)
	}
	if got := More(Sum(b[:1<<19]), b[1<<19:]); got != want {
		t.Fatalf("More: %#x, want %#x", got, want)
	}
	got, err := Open(Seal(b))
	if !slices.Equal(got, b) || err != nil {
		t.Fatalf("Open: %d bytes, %v", len(got), err)
	}
}

// P5.1: sealed bytes that are written out, the sum's lowest byte first.
func TestSealWrittenOut(t *testing.T) {
	for _, row := range []struct{ body, sealed string }{
		{"", "\x00\x00\x00\x00"},
		{"a", "a\x43\xbe\xb7\xe8"},
		{"123456789", "123456789\x26\x39\xf4\xcb"},
		{"\x00\x00\x00\x00", "\x00\x00\x00\x00\x1c\xdf\x44\x21"},
	} {
		if got := Seal([]byte(row.body)); string(got) != row.sealed {
			t.Errorf("Seal(%q): %x, want %x", row.body, got, row.sealed)
		}
		got, err := Open([]byte(row.sealed))
		if string(got) != row.body || err != nil || !Right([]byte(row.sealed)) {
			t.Errorf("Open(%x): %q, %v", row.sealed, got, err)
		}
	}
}

// P5.1: what isn't sealed has its error, and nothing beside it: too short comes first, else the sum is wrong.
func TestOpenErrors(t *testing.T) {
	for _, row := range []struct {
		b    string
		want error
	}{
		{"", api.ErrShort},
		{"\x00", api.ErrShort},
		{"\x00\x00", api.ErrShort},
		{"\x00\x00\x00", api.ErrShort},
		{"\xff\xff\xff", api.ErrShort},
		{"a\x43\xbe", api.ErrShort},
		{"\x00\x00\x00\x01", api.ErrSum},
		{"\xff\xff\xff\xff", api.ErrSum},
		{"\x00\x00\x00\x00\x00", api.ErrSum},
		{"a\x43\xbe\xb7", api.ErrSum},
		{"a\xe8\xb7\xbe\x43", api.ErrSum}, // the highest first
		{"a\xbc\x41\x48\x17", api.ErrSum}, // the bits aren't turned at the end
		{"b\x43\xbe\xb7\xe8", api.ErrSum},
		{"\x43\xbe\xb7\xe8a", api.ErrSum},
		{"a\x43\xbe\xb7\xe8\x00", api.ErrSum},
		{"\x00a\x43\xbe\xb7\xe8", api.ErrSum},
	} {
		got, err := Open([]byte(row.b))
		if got != nil || !sameError(err, row.want) || Right([]byte(row.b)) {
			t.Errorf("Open(%x): %x, %v, Right %v, want %v", row.b, got, err, Right([]byte(row.b)), row.want)
		}
	}
	if got, err := Open(nil); got != nil || !sameError(err, api.ErrShort) || Right(nil) {
		t.Errorf("Open(nil): %x, %v", got, err)
	}
}

// P5.1: what is sealed and opened is apart: neither what was given nor the room behind it changes.
func TestApart(t *testing.T) {
	room := mixed(64, 9)
	copy(room, modelSeal(room[:8]))
	before := string(room)
	sealed := Seal(room[:8])
	opened, err := Open(room[:12])
	if err != nil {
		t.Fatal(err)
	}
	for _, b := range [][]byte{sealed, opened} {
		for i := range b {
			b[i] ^= 0xff
		}
		_ = append(b, 1, 2, 3, 4)
	}
	if string(room) != before {
		t.Fatalf("%x became %x", before, room)
	}
	again, err := Open(room[:12])
	if string(again) != before[:8] || err != nil {
		t.Fatalf("Open: %x, %v behind a change of what it answered", again, err)
	}
	for i := range room {
		room[i] = 0
	}
	if string(again) != before[:8] {
		t.Fatal("what was opened changed with what was given")
	}
}

// turned is bytes with the bits turned that a window of 32 has, from a bit on: the lowest bit of each byte comes first.
func turned(b []byte, from int, window uint32) []byte {
	out := slices.Clone(b)
	for i := range 32 {
		if window>>i&1 == 1 {
			out[(from+i)/8] ^= 1 << ((from + i) % 8)
		}
	}
	return out
}

// checkTurned tells that bytes that were sealed aren't, with these bits turned.
func checkTurned(t *testing.T, sealed []byte, from int, window uint32) {
	t.Helper()
	b := turned(sealed, from, window)
	got, err := Open(b)
	if got != nil || !sameError(err, api.ErrSum) || Right(b) {
		t.Fatalf("%x with %#x turned from bit %d on: %x, %v, Right %v", sealed, window, from, got, err, Right(b))
	}
}

// windows are what may be turned of 32 bits: one, two, all of a length, and mixed ones.
func windows() []uint32 {
	var all []uint32
	for i := range 32 {
		all = append(all, math.MaxUint32>>i)
		for j := range i + 1 {
			all = append(all, 1<<i|1<<j)
		}
	}
	next := chance(1)
	for range 100 {
		all = append(all, uint32(next())|1)
	}
	return append(all, 0xEDB88320, 0x04C11DB7, 0xDB710641, 0x55555555, 0xaaaaaaaa)
}

// P5.2: at every place of sealed bytes, of the body, of the sum and over both.
func TestTurnedBits(t *testing.T) {
	for _, size := range []int{0, 1, 2, 3, 4, 5, 13, 60} {
		sealed := Seal(mixed(size, 2))
		for from := range 8*len(sealed) - 31 {
			for _, window := range windows() {
				checkTurned(t, sealed, from, window)
			}
		}
	}
}

// P5.2: at both ends of many bytes.
func TestTurnedBitsOfMany(t *testing.T) {
	sealed := Seal(mixed(api.MaxBytes, 4))
	last := 8*len(sealed) - 32
	for _, from := range []int{0, 5, last / 2, last - 32, last - 17, last} {
		for _, window := range []uint32{1, 1 << 31, 1<<31 | 1, math.MaxUint32, 0xEDB88320} {
			checkTurned(t, sealed, from, window)
		}
	}
}

// P5.2: all that can be turned of 16 bits in a row.
func TestAllTurnedBits(t *testing.T) {
	sealed := Seal([]byte("ab"))
	for _, from := range []int{0, 3, 12, 16} {
		for window := uint32(1); window < 1<<16; window++ {
			checkTurned(t, sealed, from, window)
		}
	}
}

// P5.2: what is sealed is opened, and sealed anew is opened twice.
func TestSealedIsOpened(t *testing.T) {
	for size := range 200 {
		body := mixed(size, uint64(size))
		once := Seal(body)
		outer, err := Open(Seal(once))
		if string(outer) != string(once) || err != nil {
			t.Fatalf("Open(Seal(%x)): %x, %v", once, outer, err)
		}
		inner, err := Open(outer)
		if string(inner) != string(body) || err != nil {
			t.Fatalf("Open(%x): %x, %v", outer, inner, err)
		}
	}
}

func xor(a, b, c []byte) []byte {
	out := make([]byte, len(a))
	for i := range out {
		out[i] = a[i] ^ b[i] ^ c[i]
	}
	return out
}

// P5.3: of rows of all small lengths, of the same row twice, and of long ones.
func TestThreeRows(t *testing.T) {
	for size := range 200 {
		rows := [][]byte{make([]byte, size), []byte(strings.Repeat("\xff", size))}
		for seed := range uint64(4) {
			rows = append(rows, mixed(size, seed+10))
		}
		for _, a := range rows {
			for _, b := range rows {
				for _, c := range rows {
					checkThree(t, a, b, c)
				}
			}
		}
	}
	checkThree(t, mixed(1<<16, 1), mixed(1<<16, 2), mixed(1<<16, 3))
}

func checkThree(t *testing.T, a, b, c []byte) {
	t.Helper()
	if got, want := Sum(xor(a, b, c)), Sum(a)^Sum(b)^Sum(c); got != want {
		t.Fatalf("of %x, %x, %x: %#x, want %#x", a, b, c, got, want)
	}
}
