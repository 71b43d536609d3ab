package runes

import (
	"math"
	"slices"
	"strings"
	"testing"
	"unsafe"
)

// within tells whether a text has at a place a byte of these bounds.
func within(s string, at int, low, high byte) bool {
	return at < len(s) && low <= s[at] && s[at] <= high
}

// modelSize is Size in the chapter's words.
func modelSize(s string) int {
	if s == "" {
		return 0
	}
	low, high := byte(128), byte(191)
	switch s[0] {
	case 224:
		low = 160
	case 237:
		high = 159
	case 240:
		low = 144
	case 244:
		high = 143
	}
	second, third, fourth := within(s, 1, low, high), within(s, 2, 128, 191), within(s, 3, 128, 191)
	switch first := s[0]; {
	case first < 128:
		return 1
	case 194 <= first && first <= 223 && second:
		return 2
	case 224 <= first && first <= 239 && second && third:
		return 3
	case 240 <= first && first <= 244 && second && third && fourth:
		return 4
	}
	return 0
}

// modelEnds is where the runes of a text end up to its fault, behind the text's beginning.
func modelEnds(s string) []int {
	ends := []int{0}
	for end := 0; ; ends = append(ends, end) {
		size := modelSize(s[end:])
		if size == 0 {
			return ends
		}
		end += size
	}
}

// modelClip is Clip in the chapter's words, of a text whose runes end there.
func modelClip(s string, ends []int, most int) string {
	clip := ""
	for _, end := range ends {
		if end <= most {
			clip = s[:end]
		}
	}
	return clip
}

// check holds all calls of a text against the model.
func check(t *testing.T, s string) {
	t.Helper()
	ends := modelEnds(s)
	fault := ends[len(ends)-1]
	if fault == len(s) {
		fault = -1
	}
	if got := Size(s); got != modelSize(s) {
		t.Fatalf("Size(%x): %d, want %d", s, got, modelSize(s))
	}
	if got := Fault(s); got != fault {
		t.Fatalf("Fault(%x): %d, want %d", s, got, fault)
	}
	if got := Right(s); got != (fault == -1) {
		t.Fatalf("Right(%x): %v, but the fault is %d", s, got, fault)
	}
	if got := Count(s); got != len(ends)-1 {
		t.Fatalf("Count(%x): %d, want %d", s, got, len(ends)-1)
	}
	for most := -2; most <= len(s)+2; most++ {
		if got, want := Clip(s, most), modelClip(s, ends, most); got != want {
			t.Fatalf("Clip(%x, %d): %x, want %x", s, most, got, want)
		}
	}
}

// edges are the bytes at which the chapter's bounds are, their neighbours, and some between.
func edges() []byte {
	return []byte{
		0, 'a', 127, 128, 129, 143, 144, 145, 159, 160, 161, 190, 191, 192, 193, 194, 195, 222, 223,
		224, 225, 236, 237, 238, 239, 240, 241, 243, 244, 245, 247, 248, 252, 255,
	}
}

// eachRow calls with all rows of so many bytes out of those given.
func eachRow(out []byte, size int, call func(s string)) {
	var walk func(b []byte)
	walk = func(b []byte) {
		if len(b) == size {
			call(string(b))
			return
		}
		for _, x := range out {
			walk(append(b, x))
		}
	}
	walk(make([]byte, 0, size))
}

func everyByte() []byte {
	all := make([]byte, 256)
	for i := range all {
		all[i] = byte(i)
	}
	return all
}

// chance answers numbers that look like chance, the same ones each time.
func chance(seed uint64) func(below int) int {
	return func(below int) int {
		seed = seed*6364136223846793005 + 1442695040888963407
		return int((seed >> 33) % uint64(below))
	}
}

// P6.1: of all rows of up to two bytes.
func TestSmallRows(t *testing.T) {
	for size := range 3 {
		eachRow(everyByte(), size, func(s string) { check(t, s) })
	}
}

// P6.1: of all rows of three bytes that matter, and all first and second bytes with some behind them.
func TestRowsOfEdges(t *testing.T) {
	eachRow(edges(), 3, func(s string) { check(t, s) })
	eachRow(everyByte(), 2, func(s string) {
		for _, third := range []string{"\x00", "\x7f", "\x80", "\xbf", "\xc0", "\xff"} {
			check(t, s+third)
			for _, fourth := range []string{"\x7f", "\x80", "\xbf", "\xc0"} {
				check(t, s+third+fourth)
			}
		}
	})
}

// P6.1: each byte stands in each place of a rune of four bytes, and of one of three behind another rune.
func TestEachPlace(t *testing.T) {
	for _, s := range []string{"\xf0\x90\x80\x80", "\xf1\x80\x80\x80", "\xf4\x8f\xbf\xbf", "a\xe0\xa0\x80", "\x7f\xed\x9f\xbf", "\xc2\x80\xdf\xbf"} {
		for at := range len(s) {
			for _, x := range everyByte() {
				row := s[:at] + string([]byte{x}) + s[at+1:]
				check(t, row)
				check(t, row+"\xbf")
				check(t, "\xc3\xa4"+row+"z")
			}
		}
	}
}

// P6.1: of mixed rows of all small lengths, of runes and of bytes that are none.
func TestMixedRows(t *testing.T) {
	pieces := []string{
		"", "\x00", "a", "\x7f", "\xc2\x80", "\xdf\xbf", "\xe0\xa0\x80", "\xef\xbf\xbd", "\xef\xbf\xbf", "\xed\x9f\xbf", "\xee\x80\x80",
		"\xf0\x90\x80\x80", "\xf4\x8f\xbf\xbf", "\xf0\x9f\x98\x80",
	}
	wrong := []string{"\x80", "\xbf", "\xc0\x80", "\xc3", "\xe2\x82", "\xf0\x9f\x98", "\xed\xa0\x80", "\xf4\x90\x80\x80", "\xff"}
	for seed := range uint64(3000) {
		next := chance(seed)
		s := ""
		for range next(12) {
			s += pieces[next(len(pieces))]
		}
		check(t, s)
		s += wrong[next(len(wrong))]
		check(t, s)
		check(t, s+pieces[next(len(pieces))])
	}
}

// P6.1: each number that has a rune's bytes is right, and has as many as the chapter says.
func TestEachRune(t *testing.T) {
	for r := range rune(0x110000) {
		if 0xd800 <= r && r < 0xe000 {
			continue
		}
		s := string(r)
		size := 1
		for _, more := range []rune{0x80, 0x800, 0x10000} {
			if r >= more {
				size++
			}
		}
		if Size(s) != size || Size(s+"\xff") != size || Count(s) != 1 || Fault(s) != -1 || !Right(s) || Clip(s, size) != s || Clip(s, size-1) != "" {
			t.Fatalf("%#x, the bytes %x: %d, %d, %d, %v, %x", r, s, Size(s), Count(s), Fault(s), Right(s), Clip(s, size))
		}
	}
}

// P6.1: answers that are written out.
func TestWrittenOut(t *testing.T) {
	for _, row := range []struct {
		s                  string
		fault, size, count int
	}{
		{"", -1, 0, 0},
		{"\x00", -1, 1, 1},
		{"a", -1, 1, 1},
		{"\x7f", -1, 1, 1},
		{"\xc3\xa4", -1, 2, 1}, // the chapter's example
		{"\xc2\x80", -1, 2, 1},
		{"\xdf\xbf", -1, 2, 1},
		{"\xe0\xa0\x80", -1, 3, 1},
		{"\xed\x9f\xbf", -1, 3, 1},
		{"\xee\x80\x80", -1, 3, 1},
		{"\xef\xbf\xbd", -1, 3, 1}, // the rune that often stands for what is no rune
		{"\xef\xbf\xbf", -1, 3, 1},
		{"\xf0\x90\x80\x80", -1, 4, 1},
		{"\xf4\x8f\xbf\xbf", -1, 4, 1},
		{"a\xc3\xa4\xe2\x82\xac\xf0\x9f\x98\x80", -1, 1, 4},
		{"\x80", 0, 0, 0},
		{"\xbfa", 0, 0, 0},
		{"\xc0\x80", 0, 0, 0},
		{"\xc1\xbf", 0, 0, 0},
		{"\xc3", 0, 0, 0},
		{"\xc3a", 0, 0, 0},
		{"\xe0\x9f\xbf", 0, 0, 0},
		{"\xed\xa0\x80", 0, 0, 0},
		{"\xed\xbf\xbf", 0, 0, 0},
		{"\xe2\x82", 0, 0, 0},
		{"\xf0\x8f\xbf\xbf", 0, 0, 0},
		{"\xf4\x90\x80\x80", 0, 0, 0},
		{"\xf5\x80\x80\x80", 0, 0, 0},
		{"\xf8\x88\x80\x80\x80", 0, 0, 0},
		{"\xff", 0, 0, 0},
		{"a\xff", 1, 1, 1},
		{"a\xffb\xff", 1, 1, 1},
		{"\xef\xbf\xbd\x80", 3, 3, 1},
		{"\xef\xbf\xbd\xef\xbf", 3, 3, 1},
		{"\xc3\xa4\xa4", 2, 2, 1},
		{"ab\xe2\x82", 2, 1, 2},
		{"\xf0\x9f\x98\x80\xf0\x9f\x98", 4, 4, 1},
	} {
		if Fault(row.s) != row.fault || Size(row.s) != row.size || Count(row.s) != row.count || Right(row.s) != (row.fault == -1) {
			t.Errorf("%x: fault %d, size %d, count %d, right %v, want %d, %d, %d", row.s, Fault(row.s), Size(row.s), Count(row.s), Right(row.s), row.fault, row.size, row.count)
		}
	}
}

// P6.1: beginnings that are written out.
func TestClipWrittenOut(t *testing.T) {
	const mixed = "a\xc3\xa4\xe2\x82\xac\xf0\x9f\x98\x80z" // ends at 1, 3, 6, 10 and 11
	for _, row := range []struct {
		s    string
		most int
		want int // how many bytes of s
	}{
		{"", 0, 0}, {"", 1, 0}, {"", -1, 0}, {"", math.MaxInt, 0}, {"", math.MinInt, 0},
		{mixed, math.MinInt, 0}, {mixed, -1, 0}, {mixed, 0, 0}, {mixed, 1, 1}, {mixed, 2, 1}, {mixed, 3, 3},
		{mixed, 4, 3}, {mixed, 5, 3}, {mixed, 6, 6}, {mixed, 7, 6}, {mixed, 8, 6}, {mixed, 9, 6}, {mixed, 10, 10},
		{mixed, 11, 11}, {mixed, 12, 11}, {mixed, math.MaxInt, 11},
		{"a\xffb", 3, 1}, {"a\xffb", 2, 1}, {"a\xffb", 1, 1}, {"a\xffb", 0, 0}, {"a\xffb", math.MaxInt, 1},
		{"\xffb", 2, 0}, {"\xffb", -1, 0}, {"\xffb", math.MaxInt, 0}, {"a\xe2\x82", 3, 1}, {"a\xe2\x82", math.MinInt, 0},
	} {
		if got := Clip(row.s, row.most); got != row.s[:row.want] {
			t.Errorf("Clip(%x, %d): %x, want %x", row.s, row.most, got, row.s[:row.want])
		}
	}
}

// P6.1: a text that is clipped shares no memory with what was given.
func TestClipIsApart(t *testing.T) {
	for _, s := range []string{"a", "abc", "\xc3\xa4b", "a\xff"} {
		for most := 2; most <= 4; most++ {
			if got := Clip(s, most); got == "" || unsafe.StringData(got) == unsafe.StringData(s) {
				t.Errorf("Clip(%x, %d): %x, in the memory of what was given", s, most, got)
			}
		}
	}
}

// P6.1: of many runes, and with a fault behind them.
func TestLong(t *testing.T) {
	const times = 1 << 18
	s := strings.Repeat("a\xc3\xa4\xe2\x82\xac\xf0\x9f\x98\x80", times)
	if Fault(s) != -1 || !Right(s) || Count(s) != 4*times || Clip(s, len(s)-1) != s[:len(s)-4] || Clip(s, len(s)) != s {
		t.Fatalf("fault %d, count %d", Fault(s), Count(s))
	}
	wrong := s + "\xed\xa0\x80" + s
	if Fault(wrong) != len(s) || Right(wrong) || Count(wrong) != 4*times || Clip(wrong, len(wrong)) != s {
		t.Fatalf("fault %d, count %d, want %d, %d", Fault(wrong), Count(wrong), len(s), 4*times)
	}
}

// rightTexts are texts of up to three runes, one of each size and each bound.
func rightTexts() []string {
	one := []string{
		"\x00", "a", "\x7f", "\xc2\x80", "\xdf\xbf", "\xe0\xa0\x80", "\xed\x9f\xbf", "\xee\x80\x80", "\xef\xbf\xbd",
		"\xf0\x90\x80\x80", "\xf4\x8f\xbf\xbf",
	}
	all := append([]string{""}, one...)
	for _, first := range one {
		for _, second := range one {
			all = append(all, first+second, first+second+one[(len(first)+len(second))%len(one)])
		}
	}
	return all
}

// P6.2: two texts, put together, are right, if both are, and have both ones' runes.
func TestPutTogether(t *testing.T) {
	texts := rightTexts()
	for _, a := range texts {
		for _, b := range texts {
			if s := a + b; !Right(s) || Fault(s) != -1 || Count(s) != Count(a)+Count(b) || Clip(s, len(a)) != a {
				t.Fatalf("%x and %x: fault %d, count %d, clipped %x", a, b, Fault(s), Count(s), Clip(s, len(a)))
			}
		}
	}
}

// P6.2: a right text that is put ahead of a wrong one leaves the fault where it was.
func TestPutAheadOfWrong(t *testing.T) {
	for _, a := range rightTexts() {
		for _, b := range []string{"\x80", "\xbf\xbf", "\xc3", "\xed\xa0\x80", "a\xff", "\xc3\xa4\xe2\x82", "\xf4\x90\x80\x80"} {
			if s := a + b; Right(s) || Fault(s) != len(a)+Fault(b) || Count(s) != Count(a)+Count(b) {
				t.Fatalf("%x and %x: right %v, fault %d, count %d", a, b, Right(s), Fault(s), Count(s))
			}
		}
	}
}

// P6.2: a right text parted at a rune's beginning is two right ones; parted within a rune, neither is.
func TestParted(t *testing.T) {
	for _, s := range rightTexts() {
		ends := modelEnds(s)
		if ends[len(ends)-1] != len(s) || !Right(s) {
			t.Fatalf("%x isn't right", s)
		}
		for at := range len(s) + 1 {
			ahead, behind, begins := s[:at], s[at:], slices.Contains(ends, at)
			if Right(ahead) != begins || Right(behind) != begins {
				t.Fatalf("%x, parted at %d: %v, %v, want %v", s, at, Right(ahead), Right(behind), begins)
			}
			if begins && Count(ahead)+Count(behind) != Count(s) {
				t.Fatalf("%x, parted at %d: %d and %d runes, of %d", s, at, Count(ahead), Count(behind), Count(s))
			}
		}
	}
}
