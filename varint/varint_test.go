package varint

import (
	"errors"
	"math"
	"math/big"
	"slices"
	"testing"

	"redline/api"
)

// model parses as the chapter's words say it: the sum of the bytes, held against 2^64.
func model(b []byte) (uint64, int, error) {
	last := slices.IndexFunc(b, func(x byte) bool { return x < 128 })
	if last < 0 && len(b) < 10 {
		return 0, 0, api.ErrShort
	}
	if last < 0 || last >= 10 {
		return 0, 0, api.ErrVarint
	}
	sum, times := new(big.Int), big.NewInt(1)
	for _, x := range b[:last+1] {
		sum.Add(sum, new(big.Int).Mul(big.NewInt(int64(x%128)), times))
		times.Mul(times, big.NewInt(128))
	}
	if !sum.IsUint64() {
		return 0, 0, api.ErrVarint
	}
	return sum.Uint64(), last + 1, nil
}

// modelAll parses one behind the other.
func modelAll(b []byte) ([]uint64, error) {
	var list []uint64
	for len(b) > 0 {
		n, size, err := model(b)
		if err != nil {
			return nil, err
		}
		list, b = append(list, n), b[size:]
	}
	return list, nil
}

func sameError(a, b error) bool {
	return errors.Is(a, b) && (a == nil) == (b == nil)
}

// check holds Parse and All of bytes against the model, and that the bytes stay.
func check(t *testing.T, b []byte) {
	t.Helper()
	before := string(b)
	n, size, err := Parse(b)
	wantN, wantSize, wantErr := model(b)
	if n != wantN || size != wantSize || !sameError(err, wantErr) {
		t.Fatalf("Parse(%x): %d, %d, %v, want %d, %d, %v", b, n, size, err, wantN, wantSize, wantErr)
	}
	list, err := All(b)
	wantList, wantErr := modelAll(b)
	if !slices.Equal(list, wantList) || !sameError(err, wantErr) {
		t.Fatalf("All(%x): %d, %v, want %d, %v", b, list, err, wantList, wantErr)
	}
	if err != nil && list != nil {
		t.Fatalf("All(%x): a list beside an error", b)
	}
	if string(b) != before {
		t.Fatalf("%x became %x", before, b)
	}
}

// eachRow calls with all rows of so many bytes out of those given.
func eachRow(out []byte, size int, call func(b []byte)) {
	var walk func(b []byte)
	walk = func(b []byte) {
		if len(b) == size {
			call(b)
			return
		}
		for _, x := range out {
			walk(append(b, x))
		}
	}
	walk(make([]byte, 0, size))
}

func everyByte() []byte {
	all := make([]byte, 256)
	for i := range all {
		all[i] = byte(i)
	}
	return all
}

// numbers has each bit alone, what is near it, and all numbers of one and two bytes.
func numbers() []uint64 {
	all := []uint64{math.MaxUint64, math.MaxInt64}
	for i := range 64 {
		bit := uint64(1) << i
		all = append(all, bit-1, bit, bit+1, ^bit, bit*0x9e3779b97f4a7c15)
	}
	for n := range uint64(1 << 14) {
		all = append(all, n)
	}
	return all
}

// P2.1: all rows of up to two bytes, and longer ones of the bytes that matter.
func TestParseSmallRows(t *testing.T) {
	for size := range 3 {
		eachRow(everyByte(), size, func(b []byte) { check(t, b) })
	}
	for size := range 7 {
		eachRow([]byte{0, 1, 2, 127, 128, 129, 255}, size, func(b []byte) { check(t, b) })
	}
}

// P2.1: nine bytes that go on, with each tenth one, and more or nothing behind.
func TestParseTenthByte(t *testing.T) {
	for _, goOn := range []byte{128, 129, 200, 255} {
		nine := slices.Repeat([]byte{goOn}, 9)
		check(t, nine)
		for _, tenth := range everyByte() {
			ten := append(slices.Clone(nine), tenth)
			check(t, ten)
			for _, behind := range []byte{0, 1, 127, 128, 255} {
				check(t, append(slices.Clone(ten), behind))
			}
		}
	}
}

// P2.1: each length, ended and not.
func TestParseEachLength(t *testing.T) {
	for size := range 14 {
		for _, goOn := range []byte{128, 129, 255} {
			b := slices.Repeat([]byte{goOn}, size)
			check(t, b)
			for _, last := range []byte{0, 1, 2, 64, 127} {
				check(t, append(slices.Clone(b), last))
			}
		}
	}
}

// P2.1: the answers of Parse, written out.
func TestParse(t *testing.T) {
	for _, c := range []struct {
		b    string
		n    uint64
		size int
		err  error
	}{
		{"", 0, 0, api.ErrShort},
		{"\x00", 0, 1, nil},
		{"\x7f", 127, 1, nil},
		{"\x80", 0, 0, api.ErrShort},
		{"\x80\x01", 128, 2, nil},
		{"\xac\x02", 300, 2, nil},
		{"\xac\x02\xff", 300, 2, nil},
		{"\x80\x00", 0, 2, nil},
		{"\xac\x82\x00", 300, 3, nil},
		{"\x80\x80\x80\x80\x80\x80\x80\x80\x80", 0, 0, api.ErrShort},
		{"\x80\x80\x80\x80\x80\x80\x80\x80\x80\x00", 0, 10, nil},
		{"\x80\x80\x80\x80\x80\x80\x80\x80\x80\x01", 1 << 63, 10, nil},
		{"\xff\xff\xff\xff\xff\xff\xff\xff\x7f", math.MaxInt64, 9, nil},
		{"\xff\xff\xff\xff\xff\xff\xff\xff\xff\x01", math.MaxUint64, 10, nil},
		{"\xff\xff\xff\xff\xff\xff\xff\xff\xff\x02", 0, 0, api.ErrVarint},
		{"\x80\x80\x80\x80\x80\x80\x80\x80\x80\x7f", 0, 0, api.ErrVarint},
		{"\x80\x80\x80\x80\x80\x80\x80\x80\x80\x80", 0, 0, api.ErrVarint},
		{"\x80\x80\x80\x80\x80\x80\x80\x80\x80\x81", 0, 0, api.ErrVarint},
		{"\x80\x80\x80\x80\x80\x80\x80\x80\x80\x80\x00", 0, 0, api.ErrVarint},
	} {
		n, size, err := Parse([]byte(c.b))
		if n != c.n || size != c.size || !sameError(err, c.err) {
			t.Errorf("Parse(%x): %d, %d, %v, want %d, %d, %v", c.b, n, size, err, c.n, c.size, c.err)
		}
	}
}

// P2.1: the first error counts, and beside it there is no list.
func TestAll(t *testing.T) {
	const noVarint = "\x80\x80\x80\x80\x80\x80\x80\x80\x80\x02"
	for _, c := range []struct {
		b    string
		list []uint64
		err  error
	}{
		{"", nil, nil},
		{"\x05", []uint64{5}, nil},
		{"\x00\xac\x02\x80\x00\x01", []uint64{0, 300, 0, 1}, nil},
		{"\x01\x80", nil, api.ErrShort},
		{"\x01" + noVarint, nil, api.ErrVarint},
		{noVarint + "\x80", nil, api.ErrVarint},
		{"\x01\x02" + noVarint[:9], nil, api.ErrShort},
	} {
		list, err := All([]byte(c.b))
		if !slices.Equal(list, c.list) || !sameError(err, c.err) {
			t.Errorf("All(%x): %d, %v, want %d, %v", c.b, list, err, c.list, c.err)
		}
	}
	if list, err := All(nil); len(list) != 0 || err != nil {
		t.Errorf("All(nil): %d, %v", list, err)
	}
}

// P2.1: the bytes that are put, written out.
func TestPut(t *testing.T) {
	for _, c := range []struct {
		b    string
		n    uint64
		want string
	}{
		{"", 0, "\x00"},
		{"", 1, "\x01"},
		{"", 127, "\x7f"},
		{"", 128, "\x80\x01"},
		{"", 300, "\xac\x02"},
		{"\x80\x07", 300, "\x80\x07\xac\x02"},
		{"", 1<<14 - 1, "\xff\x7f"},
		{"", 1 << 14, "\x80\x80\x01"},
		{"\x00", math.MaxInt64, "\x00\xff\xff\xff\xff\xff\xff\xff\xff\x7f"},
		{"", 1 << 63, "\x80\x80\x80\x80\x80\x80\x80\x80\x80\x01"},
		{"", math.MaxUint64, "\xff\xff\xff\xff\xff\xff\xff\xff\xff\x01"},
	} {
		if got := Put([]byte(c.b), c.n); string(got) != c.want {
			t.Errorf("Put(%x, %d): %x, want %x", c.b, c.n, got, c.want)
		}
	}
	if got := Put(nil, 300); string(got) != "\xac\x02" {
		t.Errorf("Put(nil, 300): %x", got)
	}
}

// P2.1: what is put is apart: neither what was given nor the room behind it changes.
func TestPutIsApart(t *testing.T) {
	room := make([]byte, 32)
	first := Put(room[:4], math.MaxUint64)
	second := Put(first[:4], 300)
	if string(first[4:]) != "\xff\xff\xff\xff\xff\xff\xff\xff\xff\x01" {
		t.Errorf("the second put changed what the first one put: %x", first)
	}
	for i := range second {
		second[i] = 0xee
	}
	if string(first[:4]) != "\x00\x00\x00\x00" || slices.Max(room) != 0 {
		t.Errorf("changed what was given, or the room behind it: %x, %x", first, room)
	}
}

// P2.1: what is put is the shortest one, and Size tells its bytes.
func TestSizeIsOfTheShortest(t *testing.T) {
	for _, n := range numbers() {
		b := Put(nil, n)
		if len(b) > 1 && b[len(b)-1] == 0 {
			t.Errorf("Put of %d: %x is not the shortest", n, b)
		}
		if Size(n) != len(b) {
			t.Errorf("Size(%d): %d, want %d", n, Size(n), len(b))
		}
	}
	for size := 1; size < 10; size++ {
		first := uint64(1) << (7 * size)
		if Size(first-1) != size || Size(first) != size+1 {
			t.Errorf("Size of %d and the next one: %d, %d", first-1, Size(first-1), Size(first))
		}
	}
	if Size(0) != 1 || Size(math.MaxUint64) != 10 {
		t.Errorf("Size of the first and the last number: %d, %d", Size(0), Size(math.MaxUint64))
	}
}

// P2.1: all numbers in a row, and none.
func TestPutAll(t *testing.T) {
	if b := PutAll(nil); len(b) != 0 {
		t.Errorf("PutAll(nil): %x", b)
	}
	if b := PutAll([]uint64{}); len(b) != 0 {
		t.Errorf("PutAll of nothing: %x", b)
	}
	list := []uint64{300, 0, math.MaxUint64, 127}
	if b := PutAll(list); string(b) != "\xac\x02\x00\xff\xff\xff\xff\xff\xff\xff\xff\xff\x01\x7f" {
		t.Errorf("PutAll: %x", b)
	}
	if !slices.Equal(list, []uint64{300, 0, math.MaxUint64, 127}) {
		t.Errorf("PutAll changed its list: %d", list)
	}
}

// P2.1: 0, -1, 1, -2, 2 .. are 0, 1, 2, 3, 4 .., to both ends.
func TestZigZag(t *testing.T) {
	check := func(sign int64, n uint64) {
		t.Helper()
		if Zig(sign) != n || Zag(n) != sign {
			t.Errorf("%d is %d, and %d is %d back", sign, Zig(sign), n, Zag(n))
		}
	}
	for i := range int64(5000) {
		check(i, uint64(2*i))
		check(-i-1, uint64(2*i+1))
		check(math.MaxInt64-i, math.MaxUint64-1-uint64(2*i))
		check(math.MinInt64+i, math.MaxUint64-uint64(2*i))
	}
	for _, n := range numbers() {
		if Zig(Zag(n)) != n || Zag(Zig(int64(n))) != int64(n) {
			t.Errorf("%d is not back: %d, %d", n, Zig(Zag(n)), Zag(Zig(int64(n))))
		}
	}
}

// P2.2: what is put is parsed as it was, whatever stands behind it.
func TestPutIsParsed(t *testing.T) {
	behind := []string{"", "\x00", "\x01", "\x7f", "\x80", "\xff", "\x80\x00", "\xff\xff\xff\xff\xff\xff\xff\xff\xff\xff\xff"}
	for _, n := range numbers() {
		for _, tail := range behind {
			b := append(Put([]byte(nil), n), tail...)
			got, size, err := Parse(b)
			if got != n || size != len(b)-len(tail) || err != nil {
				t.Fatalf("%d with %x behind: %d, %d, %v", n, tail, got, size, err)
			}
		}
	}
}

// P2.2: what is put behind bytes is parsed behind them.
func TestPutBehindIsParsed(t *testing.T) {
	for _, ahead := range []string{"\x00", "\x80", "\xff\xff\xff"} {
		for _, n := range numbers() {
			b := Put([]byte(ahead), n)
			got, size, err := Parse(b[len(ahead):])
			if string(b[:len(ahead)]) != ahead || got != n || size != len(b)-len(ahead) || err != nil {
				t.Fatalf("%d behind %x: %x, %d, %d, %v", n, ahead, b, got, size, err)
			}
		}
	}
}

// P2.2: a row that is put, at once or one by one, is parsed as it was.
func TestRowIsParsed(t *testing.T) {
	list := numbers()
	all := PutAll(list)
	got, err := All(all)
	if !slices.Equal(got, list) || err != nil {
		t.Fatalf("All of PutAll: %d numbers of %d, %v", len(got), len(list), err)
	}
	var one []byte
	for _, n := range list[:500] {
		one = Put(one, n)
	}
	if string(one) != string(PutAll(list[:500])) {
		t.Fatal("PutAll is not what is put one by one")
	}
}
