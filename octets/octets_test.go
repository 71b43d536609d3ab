package octets

import (
	"errors"
	"fmt"
	"math"
	"testing"

	"redline/api"
)

// model is what the chapter says a Reader has: bytes and a place.
type model struct {
	data []byte
	at   int
}

// step is one call of a Reader, and the same call of the model.
type step struct {
	name  string
	real  func(r *Reader) (any, error)
	model func(m *model) (any, error)
}

func (m *model) take(n int) ([]byte, error) {
	if n < 0 {
		return nil, api.ErrRange
	}
	if len(m.data)-m.at < n {
		return nil, api.ErrShort
	}
	m.at += n
	return m.data[m.at-n : m.at], nil
}

// number folds from the highest byte down, unlike the package.
func (m *model) number(width int) (uint64, error) {
	b, err := m.take(width)
	var n uint64
	for i := len(b) - 1; i >= 0; i-- {
		n = n*256 + uint64(b[i])
	}
	return n, err
}

func stepOf(name string, real func(*Reader) (any, error), model func(*model) (any, error)) step {
	return step{name, real, model}
}

func fixedSteps() []step {
	return []step{
		stepOf("Byte",
			func(r *Reader) (any, error) { return one(r.Byte()) },
			func(m *model) (any, error) {
				n, err := m.number(1)
				return byte(n), err
			}),
		stepOf("Fixed32",
			func(r *Reader) (any, error) { return one(r.Fixed32()) },
			func(m *model) (any, error) {
				n, err := m.number(4)
				return uint32(n), err
			}),
		stepOf("Fixed64",
			func(r *Reader) (any, error) { return one(r.Fixed64()) },
			func(m *model) (any, error) { return one(m.number(8)) }),
	}
}

func takeStep(n int) step {
	return stepOf(fmt.Sprintf("Take(%d)", n),
		func(r *Reader) (any, error) {
			b, err := r.Take(n)
			text := string(b)
			for i := range b { // what is taken is apart: this must not be read later on
				b[i] = 0xee
			}
			return text, err
		},
		func(m *model) (any, error) {
			b, err := m.take(n)
			return string(b), err
		})
}

func skipStep(n int) step {
	return stepOf(fmt.Sprintf("Skip(%d)", n),
		func(r *Reader) (any, error) { return nil, r.Skip(n) },
		func(m *model) (any, error) {
			_, err := m.take(n)
			return nil, err
		})
}

func allSteps() []step {
	steps := fixedSteps()
	for _, n := range []int{math.MinInt, -1, 0, 1, 3, math.MaxInt} {
		steps = append(steps, takeStep(n), skipStep(n))
	}
	return steps
}

func one[T any](x T, err error) (any, error) { return x, err }

func counting(n int) []byte {
	b := make([]byte, n)
	for i := range b {
		b[i] = byte(0xf7 + i*37)
	}
	return b
}

// check does the same step to both and holds all against each other.
func check(t *testing.T, told string, s step, r *Reader, m *model) {
	t.Helper()
	got, err := s.real(r)
	want, wantErr := s.model(m)
	if !errors.Is(err, wantErr) || (err == nil) != (wantErr == nil) {
		t.Fatalf("%s: error %v, want %v", told, err, wantErr)
	}
	if got != want {
		t.Fatalf("%s: %v, want %v", told, got, want)
	}
	if r.At() != m.at || r.Left() != len(m.data)-m.at {
		t.Fatalf("%s: at %d, left %d, want %d, %d", told, r.At(), r.Left(), m.at, len(m.data)-m.at)
	}
}

// P1.1: all rows of three calls, of readers of all small lengths.
func TestReaderInEveryOrder(t *testing.T) {
	steps := allSteps()
	for size := range 14 {
		for i := range len(steps) * len(steps) * len(steps) {
			b := counting(size)
			r, m := NewReader(b), &model{data: counting(size)}
			told := fmt.Sprintf("of %d bytes", size)
			for _, k := range []int{i / len(steps) / len(steps), i / len(steps) % len(steps), i % len(steps)} {
				told += " " + steps[k].name
				check(t, told, steps[k], r, m)
			}
			if string(b) != string(m.data) {
				t.Fatalf("%s: changed the bytes", told)
			}
		}
	}
}

// P1.1: a new reader's place and number of bytes.
func TestNewReader(t *testing.T) {
	for _, b := range [][]byte{nil, {}, {5}, counting(300)} {
		r := NewReader(b)
		if r.At() != 0 || r.Left() != len(b) {
			t.Fatalf("of %d bytes: at %d, left %d", len(b), r.At(), r.Left())
		}
	}
}

// P1.1: ErrRange is named ahead of ErrShort, and an error answers zero values and keeps the place.
func TestReaderErrors(t *testing.T) {
	r := NewReader([]byte{1, 2, 3})
	if err := r.Skip(3); err != nil {
		t.Fatal(err)
	}
	for _, n := range []int{-1, math.MinInt} {
		if b, err := r.Take(n); b != nil || !errors.Is(err, api.ErrRange) {
			t.Fatalf("Take(%d): %v, %v", n, b, err)
		}
		if err := r.Skip(n); !errors.Is(err, api.ErrRange) {
			t.Fatalf("Skip(%d): %v", n, err)
		}
	}
	for _, n := range []int{1, math.MaxInt} {
		if b, err := r.Take(n); b != nil || !errors.Is(err, api.ErrShort) {
			t.Fatalf("Take(%d): %v, %v", n, b, err)
		}
		if err := r.Skip(n); !errors.Is(err, api.ErrShort) {
			t.Fatalf("Skip(%d): %v", n, err)
		}
	}
	if b, err := r.Take(0); len(b) != 0 || err != nil || r.At() != 3 || r.Left() != 0 {
		t.Fatalf("Take(0): %v, %v, at %d, left %d", b, err, r.At(), r.Left())
	}
}

// P1.1: a number that lacks one byte is short, and all its bytes are still there.
func TestReaderShortNumbers(t *testing.T) {
	r := NewReader([]byte{1, 2, 3})
	if n, err := r.Fixed32(); n != 0 || !errors.Is(err, api.ErrShort) || r.At() != 0 {
		t.Fatalf("Fixed32: %d, %v, at %d", n, err, r.At())
	}
	if b, err := r.Take(3); string(b) != "\x01\x02\x03" || err != nil {
		t.Fatalf("Take: %v, %v", b, err)
	}
	r = NewReader(counting(7))
	if n, err := r.Fixed64(); n != 0 || !errors.Is(err, api.ErrShort) || r.Left() != 7 {
		t.Fatalf("Fixed64: %d, %v, left %d", n, err, r.Left())
	}
	if x, err := NewReader(nil).Byte(); x != 0 || !errors.Is(err, api.ErrShort) {
		t.Fatalf("Byte: %d, %v", x, err)
	}
}

// P1.1: what is taken is apart, from the bytes that were given and from what is taken later.
func TestTakeIsApart(t *testing.T) {
	b := []byte{1, 2, 3, 4}
	r := NewReader(b)
	first, _ := r.Take(2)
	first = append(first, 9, 9)
	first[0] = 9
	second, _ := r.Take(2)
	if string(second) != "\x03\x04" || string(b) != "\x01\x02\x03\x04" {
		t.Fatalf("second %v, given %v", second, b)
	}
	b[2] = 7
	if second[0] != 3 {
		t.Fatal("what was taken changed with what was given")
	}
}

// P1.1: two readers of the same bytes have places of their own.
func TestReadersAreApart(t *testing.T) {
	b := counting(8)
	one, other := NewReader(b), NewReader(b)
	if err := one.Skip(5); err != nil || other.At() != 0 || other.Left() != 8 {
		t.Fatalf("%v: the other one at %d", err, other.At())
	}
}

// P1.1: a reader goes on with the bytes that it was made of.
func TestReaderKeepsItsBytes(t *testing.T) {
	b := []byte{1, 2}
	r := NewReader(b)
	b[0] = 9
	if x, err := r.Byte(); x != 1 || err != nil {
		t.Fatalf("%d, %v", x, err)
	}
}

// P1.1: the bytes of numbers that are put, the lowest first.
func TestPutBytes(t *testing.T) {
	for _, c := range []struct {
		got  []byte
		want string
	}{
		{Put32(nil, 1), "\x01\x00\x00\x00"},
		{Put32([]byte{9}, 0x04030201), "\x09\x01\x02\x03\x04"},
		{Put32([]byte{}, math.MaxUint32), "\xff\xff\xff\xff"},
		{Put64(nil, 1), "\x01\x00\x00\x00\x00\x00\x00\x00"},
		{Put64([]byte{9, 8}, 0x0807060504030201), "\x09\x08\x01\x02\x03\x04\x05\x06\x07\x08"},
		{Put64(nil, math.MaxUint64), "\xff\xff\xff\xff\xff\xff\xff\xff"},
	} {
		if string(c.got) != c.want {
			t.Errorf("%x, want %x", c.got, c.want)
		}
	}
}

// P1.1: what is put and joined is apart: neither what was given nor the room behind it changes.
func TestPutAndJoinAreApart(t *testing.T) {
	calls := map[string]func(b []byte) []byte{
		"Put32":         func(b []byte) []byte { return Put32(b, math.MaxUint32) },
		"Put64":         func(b []byte) []byte { return Put64(b, math.MaxUint64) },
		"Join":          func(b []byte) []byte { return Join(b) },
		"Join, two":     func(b []byte) []byte { return Join(b, []byte{0xff, 0xff}) },
		"Join, nothing": func(b []byte) []byte { return Join(nil, b, nil) },
	}
	for name, call := range calls {
		room := counting(32)
		out := call(room[:4])
		for i := range out {
			out[i] = 0xee
		}
		if string(room) != string(counting(32)) {
			t.Errorf("%s: changed what was given, or the room behind it: %x", name, room)
		}
	}
}

// P1.1: parts stand one behind the other.
func TestJoin(t *testing.T) {
	for _, c := range []struct {
		parts [][]byte
		want  string
	}{
		{nil, ""},
		{[][]byte{nil}, ""},
		{[][]byte{{}, nil, {}}, ""},
		{[][]byte{[]byte("a")}, "a"},
		{[][]byte{[]byte("ab"), nil, []byte("c"), []byte("ab")}, "abcab"},
	} {
		if got := Join(c.parts...); string(got) != c.want {
			t.Errorf("%q, want %q", got, c.want)
		}
	}
	if got := Join(); len(got) != 0 {
		t.Errorf("of no parts: %q", got)
	}
}

// P1.1: the texts stand in order, so their places tell how any two compare.
func TestEqualAndCompare(t *testing.T) {
	texts := []string{"", "\x00", "\x00\x00", "\x00\x01", "\x01", "a", "aa", "ab", "b", "b\x00", "\x7f", "\x80", "\xff", "\xff\x00", "\xff\xff"}
	for i, a := range texts {
		for j, b := range texts {
			want := 0
			if i < j {
				want = -1
			} else if i > j {
				want = 1
			}
			if got := Compare([]byte(a), []byte(b)); got != want {
				t.Errorf("Compare(%q, %q): %d, want %d", a, b, got, want)
			}
			if got := Equal([]byte(a), []byte(b)); got != (i == j) {
				t.Errorf("Equal(%q, %q): %v", a, b, got)
			}
		}
	}
}

// P1.1: a list without elements and nil are the same.
func TestNilIsEmpty(t *testing.T) {
	if !Equal(nil, []byte{}) || !Equal([]byte{}, nil) || Compare(nil, []byte{}) != 0 || Compare([]byte{}, nil) != 0 {
		t.Error("nil is not the same as no bytes")
	}
	if Equal(nil, []byte{0}) || Compare(nil, []byte{0}) != -1 || Compare([]byte{0}, nil) != 1 {
		t.Error("nil against a byte")
	}
}

// numbers has each bit alone, all bits below it, and their neighbours.
func numbers() []uint64 {
	var all []uint64
	for i := range 64 {
		bit := uint64(1) << i
		all = append(all, bit-1, bit, bit+1, ^bit, bit*0x9e3779b97f4a7c15)
	}
	return append(all, math.MaxUint64)
}

// P1.2: each number is read as it was put.
func TestPutIsRead(t *testing.T) {
	for _, n := range numbers() {
		r := NewReader(Put64(nil, n))
		if got, err := r.Fixed64(); got != n || err != nil || r.Left() != 0 {
			t.Errorf("Put64 of %#x: %#x, %v, left %d", n, got, err, r.Left())
		}
		r = NewReader(Put32(nil, uint32(n)))
		if got, err := r.Fixed32(); got != uint32(n) || err != nil || r.Left() != 0 {
			t.Errorf("Put32 of %#x: %#x, %v, left %d", uint32(n), got, err, r.Left())
		}
	}
}

// P1.2: numbers and bytes that are put one behind the other are read so.
func TestRowIsRead(t *testing.T) {
	var b []byte
	for i, n := range numbers() {
		b = Join(Put64(Put32(b, uint32(n)), n), []byte{byte(i)}, counting(i%5))
	}
	r := NewReader(b)
	for i, n := range numbers() {
		n32, err1 := r.Fixed32()
		n64, err2 := r.Fixed64()
		x, err3 := r.Byte()
		tail, err4 := r.Take(i % 5)
		if err := errors.Join(err1, err2, err3, err4); err != nil {
			t.Fatal(err)
		}
		if n32 != uint32(n) || n64 != n || x != byte(i) || !Equal(tail, counting(i%5)) {
			t.Fatalf("row %d of %#x: %#x, %#x, %d, %x", i, n, n32, n64, x, tail)
		}
	}
	if r.Left() != 0 || r.At() != len(b) {
		t.Fatalf("left %d, at %d", r.Left(), r.At())
	}
}
