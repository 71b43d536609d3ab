package tag

import (
	"errors"
	"math"
	"slices"
	"testing"

	"redline/api"
	"redline/varint"
)

func sameError(a, b error) bool {
	return errors.Is(a, b) && (a == nil) == (b == nil)
}

// kindErrors says of each wire kind that three bits can tell what the chapter says of it.
var kindErrors = [8]error{nil, nil, nil, api.ErrGroup, api.ErrGroup, nil, api.ErrKind, api.ErrKind}

// modelCheck is Check in the chapter's words.
func modelCheck(t Tag) error {
	if t.Number < 1 || t.Number > 536870911 {
		return api.ErrTag
	}
	if t.Wire < 0 || t.Wire > 7 {
		return api.ErrKind
	}
	return kindErrors[t.Wire]
}

// modelPut is the bytes of the shortest varint of eight times the number, and the kind.
func modelPut(t Tag) []byte {
	n := 8*int64(t.Number) + int64(t.Wire)
	var b []byte
	for ; n >= 128; n /= 128 {
		b = append(b, byte(128+n%128))
	}
	return append(b, byte(n))
}

// modelParse is Parse in the chapter's words, above layer 2.
func modelParse(b []byte) (Tag, int, error) {
	n, size, err := varint.Parse(b)
	if err != nil {
		return Tag{}, 0, err
	}
	if n > math.MaxUint32 || n < 8 {
		return Tag{}, 0, api.ErrTag
	}
	if err := kindErrors[n%8]; err != nil {
		return Tag{}, 0, err
	}
	return Tag{int(n / 8), int(n % 8)}, size, nil
}

// numbers are those at the edges of a tag's sizes and of what a number may be, with some between.
func numbers() []int {
	list := []int{math.MinInt, math.MinInt32, -1 << 29, -2, -1, 0, 1000000, math.MaxInt32, math.MaxInt32 + 1, math.MaxInt}
	for _, edge := range []int{1, 16, 2048, 1 << 18, 1 << 25, 1 << 29, 1 << 32, 1 << 61, 1 << 62} {
		list = append(list, edge-1, edge, edge+1)
	}
	return list
}

// kinds are the wire kinds, and what is none.
func kinds() []int {
	return []int{math.MinInt, math.MinInt32, -8, -3, -1, 0, 1, 2, 3, 4, 5, 6, 7, 8, 10, 13, 1 << 32, math.MaxInt}
}

// eachTag calls with all numbers and kinds.
func eachTag(call func(x Tag)) {
	for _, number := range numbers() {
		for _, kind := range kinds() {
			call(Tag{Number: number, Wire: kind})
		}
	}
}

// P3.1: Check answers ErrTag, ErrGroup and ErrKind, in this order.
func TestCheck(t *testing.T) {
	eachTag(func(x Tag) {
		if got, want := Check(x), modelCheck(x); !sameError(got, want) {
			t.Fatalf("Check(%v): %v, want %v", x, got, want)
		}
	})
}

// P3.1: Check's errors of inputs that are written out.
func TestCheckWrittenOut(t *testing.T) {
	for _, row := range []struct {
		tag  Tag
		want error
	}{
		{Tag{1, Varint}, nil}, {Tag{1, Fixed64}, nil}, {Tag{1, Bytes}, nil}, {Tag{1, Fixed32}, nil},
		{Tag{api.MaxNumber, Bytes}, nil}, {Tag{19000, Bytes}, nil},
		{Tag{0, Bytes}, api.ErrTag}, {Tag{-1, Bytes}, api.ErrTag}, {Tag{api.MaxNumber + 1, Bytes}, api.ErrTag},
		{Tag{1, 3}, api.ErrGroup}, {Tag{1, 4}, api.ErrGroup},
		{Tag{1, -1}, api.ErrKind}, {Tag{1, 6}, api.ErrKind}, {Tag{1, 7}, api.ErrKind}, {Tag{1, 8}, api.ErrKind},
		{Tag{0, 3}, api.ErrTag}, {Tag{0, 6}, api.ErrTag}, {Tag{api.MaxNumber + 1, 4}, api.ErrTag},
	} {
		if got := Check(row.tag); !sameError(got, row.want) {
			t.Errorf("Check(%v): %v, want %v", row.tag, got, row.want)
		}
	}
}

// P3.1: Put and Size answer the bytes of a tag, and how many; of no tag Check's error, no bytes, and 0.
func TestPutAndSize(t *testing.T) {
	eachTag(func(x Tag) {
		want := modelCheck(x)
		b, err := Put(x)
		if !sameError(err, want) {
			t.Fatalf("Put(%v): %v, want %v", x, err, want)
		}
		if want != nil {
			if b != nil || Size(x) != 0 {
				t.Fatalf("Put(%v): %x, of %d bytes, of no tag", x, b, Size(x))
			}
			return
		}
		if !slices.Equal(b, modelPut(x)) || Size(x) != len(b) {
			t.Fatalf("Put(%v): %x, want %x; Size: %d", x, b, modelPut(x), Size(x))
		}
	})
}

// P3.1: the bytes of tags that are written out, the smallest and the greatest of each size.
func TestPutWrittenOut(t *testing.T) {
	for _, row := range []struct {
		tag  Tag
		want []byte
	}{
		{Tag{1, Varint}, []byte{8}},
		{Tag{1, Bytes}, []byte{10}},
		{Tag{15, Fixed32}, []byte{125}},
		{Tag{16, Varint}, []byte{128, 1}},
		{Tag{2047, Fixed32}, []byte{253, 127}},
		{Tag{2048, Fixed64}, []byte{129, 128, 1}},
		{Tag{1<<18 - 1, Fixed32}, []byte{253, 255, 127}},
		{Tag{1 << 18, Bytes}, []byte{130, 128, 128, 1}},
		{Tag{1<<25 - 1, Fixed32}, []byte{253, 255, 255, 127}},
		{Tag{1 << 25, Varint}, []byte{128, 128, 128, 128, 1}},
		{Tag{api.MaxNumber, Fixed32}, []byte{253, 255, 255, 255, 15}},
	} {
		b, err := Put(row.tag)
		if err != nil || !slices.Equal(b, row.want) {
			t.Errorf("Put(%v): %v, %v, want %v", row.tag, b, err, row.want)
		}
		if size := Size(row.tag); size != len(row.want) {
			t.Errorf("Size(%v): %d, want %d", row.tag, size, len(row.want))
		}
	}
}

// checkParse holds Parse of bytes against the model, and that the bytes stay.
func checkParse(t *testing.T, b []byte) {
	t.Helper()
	before := string(b)
	got, size, err := Parse(b)
	want, wantSize, wantErr := modelParse(b)
	if got != want || size != wantSize || !sameError(err, wantErr) {
		t.Fatalf("Parse(%x): %v, %d, %v, want %v, %d, %v", b, got, size, err, want, wantSize, wantErr)
	}
	if string(b) != before {
		t.Fatalf("%x became %x", before, b)
	}
}

// P3.1: Parse answers what is told of all rows of up to two bytes, alone and with more behind them.
func TestParseSmallRows(t *testing.T) {
	checkParse(t, nil)
	checkParse(t, []byte{})
	for first := range 256 {
		checkParse(t, []byte{byte(first)})
		for second := range 256 {
			checkParse(t, []byte{byte(first), byte(second)})
			checkParse(t, []byte{byte(first), byte(second), 0, 255})
		}
	}
}

// P3.1: Parse answers what is told of numbers at all edges, of each length of their varints, and cut short.
func TestParseNumbers(t *testing.T) {
	for bit := range 64 {
		for off := range 17 {
			n := uint64(1)<<bit + uint64(off) - 8
			b := varint.Put(nil, n)
			for size := len(b); size <= 10; size++ {
				long := padded(b, size)
				checkParse(t, long)
				checkParse(t, append(long, 8, 1))
				checkParse(t, long[:size-1])
			}
		}
	}
}

// padded is a varint of so many bytes that isn't the shortest one of its number.
func padded(b []byte, size int) []byte {
	out := slices.Clone(b)
	for len(out) < size {
		out[len(out)-1] |= 128
		out = append(out, 0)
	}
	return out
}

// P3.1: Parse's errors, and which one comes first, of inputs that are written out.
func TestParseWrittenOut(t *testing.T) {
	for _, row := range []struct {
		b    []byte
		want Tag
		size int
		err  error
	}{
		{[]byte{10}, Tag{1, Bytes}, 1, nil},
		{[]byte{10, 128}, Tag{1, Bytes}, 1, nil},
		{[]byte{138, 0}, Tag{1, Bytes}, 2, nil},
		{[]byte{255, 255, 255, 255, 13}, Tag{}, 0, api.ErrKind},
		{[]byte{253, 255, 255, 255, 15}, Tag{api.MaxNumber, Fixed32}, 5, nil},
		{nil, Tag{}, 0, api.ErrShort},
		{[]byte{128}, Tag{}, 0, api.ErrShort},
		{[]byte{255, 255, 255, 255, 255, 255, 255, 255, 255}, Tag{}, 0, api.ErrShort},
		{[]byte{255, 255, 255, 255, 255, 255, 255, 255, 255, 2}, Tag{}, 0, api.ErrVarint},
		{[]byte{255, 255, 255, 255, 255, 255, 255, 255, 255, 255}, Tag{}, 0, api.ErrVarint},
		{[]byte{255, 255, 255, 255, 255, 255, 255, 255, 255, 1}, Tag{}, 0, api.ErrTag},
		// The number 2^32 and the kind of a group, or of none: it is no tag, ahead of all.
		{[]byte{128, 128, 128, 128, 16}, Tag{}, 0, api.ErrTag},
		{[]byte{138, 128, 128, 128, 16}, Tag{}, 0, api.ErrTag},
		{[]byte{139, 128, 128, 128, 16}, Tag{}, 0, api.ErrTag},
		{[]byte{142, 128, 128, 128, 16}, Tag{}, 0, api.ErrTag},
		{[]byte{0}, Tag{}, 0, api.ErrTag},
		{[]byte{2}, Tag{}, 0, api.ErrTag},
		{[]byte{3}, Tag{}, 0, api.ErrTag},
		{[]byte{7}, Tag{}, 0, api.ErrTag},
		{[]byte{128, 0}, Tag{}, 0, api.ErrTag},
		{[]byte{11}, Tag{}, 0, api.ErrGroup},
		{[]byte{12}, Tag{}, 0, api.ErrGroup},
		{[]byte{14}, Tag{}, 0, api.ErrKind},
		{[]byte{15}, Tag{}, 0, api.ErrKind},
	} {
		got, size, err := Parse(row.b)
		if got != row.want || size != row.size || !sameError(err, row.err) {
			t.Errorf("Parse(%v): %v, %d, %v, want %v, %d, %v", row.b, got, size, err, row.want, row.size, row.err)
		}
	}
}

// P3.1: the words of the wire kinds, and none of others.
func TestWord(t *testing.T) {
	words := map[int]string{0: "varint", 1: "fixed64", 2: "bytes", 5: "fixed32"}
	for _, kind := range kinds() {
		if got := Word(kind); got != words[kind] {
			t.Errorf("Word(%d): %q, want %q", kind, got, words[kind])
		}
	}
}

// P3.2: what is put is parsed as it was, whatever stands behind it.
func TestPutIsParsed(t *testing.T) {
	put := 0
	for number := 1; number <= api.MaxNumber; number += 1 + number/50 {
		for _, kind := range []int{Varint, Fixed64, Bytes, Fixed32} {
			checkBack(t, Tag{number, kind})
			put++
		}
	}
	eachTag(func(x Tag) {
		if modelCheck(x) == nil {
			checkBack(t, x)
		}
	})
	if put < 1000 {
		t.Fatalf("only %d tags", put)
	}
}

func checkBack(t *testing.T, x Tag) {
	t.Helper()
	b, err := Put(x)
	if err != nil {
		t.Fatalf("Put(%v): %v", x, err)
	}
	for _, behind := range [][]byte{nil, {0}, {127}, {128}, {255, 255}, b} {
		got, size, err := Parse(slices.Concat(b, behind))
		if got != x || size != len(b) || size != Size(x) || err != nil {
			t.Fatalf("Parse(%x, %x): %v, %d, %v, want %v, %d", b, behind, got, size, err, x, len(b))
		}
	}
}

// P3.1: the bytes of one call are apart from those of another one.
func TestPutApart(t *testing.T) {
	x := Tag{2048, Bytes}
	first, _ := Put(x)
	first = append(first[:1], 7)
	second, _ := Put(x)
	if !slices.Equal(second, []byte{130, 128, 1}) || first[1] != 7 {
		t.Fatalf("Put(%v): %v behind a change of %v", x, second, first)
	}
}
