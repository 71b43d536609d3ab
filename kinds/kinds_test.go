package kinds

import (
	"math"
	"strings"
	"testing"

	"redline/record"
	"redline/tag"
	"redline/varint"
)

// P10.1: the kinds have the numbers that are told.
func TestNumbersOfKinds(t *testing.T) {
	all := []int{
		Double, Float, Int32, Int64, Uint32, Uint64, Sint32, Sint64, Fixed32, Fixed64, Sfixed32, Sfixed64, Bool, String, Bytes, Enum, Message,
	}
	if len(all) != len(chapter) {
		t.Fatalf("%d kinds, %d are told", len(all), len(chapter))
	}
	for i, kind := range all {
		if kind != chapter[i].kind {
			t.Errorf("%s is %d, want %d", chapter[i].name, kind, chapter[i].kind)
		}
	}
}

// P10.1: what is told of each kind.
func TestKinds(t *testing.T) {
	for _, x := range chapter {
		if got := Name(x.kind); got != x.name {
			t.Errorf("Name(%d): %q, want %q", x.kind, got, x.name)
		}
		if got := Wire(x.kind); got != x.wire {
			t.Errorf("Wire(%s): %d, want %d", x.name, got, x.wire)
		}
		if got, want := Number(x.kind), x.form != notNumbers; got != want {
			t.Errorf("Number(%s): %v", x.name, got)
		}
		if got, want := Packs(x.kind), x.form != notNumbers; got != want {
			t.Errorf("Packs(%s): %v", x.name, got)
		}
		if got := Keys(x.kind); got != x.keys {
			t.Errorf("Keys(%s): %v", x.name, got)
		}
	}
}

// P10.1: a number that is no kind.
func TestNoKinds(t *testing.T) {
	list := words()[:500]
	for _, kind := range noKinds() {
		if name, wire := Name(kind), Wire(kind); name != "" || wire != -1 {
			t.Errorf("%d: Name %q, Wire %d", kind, name, wire)
		}
		if Number(kind) || Packs(kind) || Keys(kind) {
			t.Errorf("%d: Number %v, Packs %v, Keys %v", kind, Number(kind), Packs(kind), Keys(kind))
		}
		for _, w := range list {
			check(t, kind, notNumbers, w)
		}
	}
}

// P10.1: the names that a schema has, and those that it hasn't.
func TestOf(t *testing.T) {
	for _, x := range chapter[:15] {
		if kind, is := Of(x.name); kind != x.kind || !is {
			t.Errorf("Of(%q): %d, %v, want %d", x.name, kind, is, x.kind)
		}
		for _, name := range []string{
			" " + x.name, x.name + " ", x.name + "\x00", x.name + "s", x.name[1:], x.name[:len(x.name)-1],
			"." + x.name, x.name + ".", strings.ToUpper(x.name), strings.ToUpper(x.name[:1]) + x.name[1:], x.name + x.name,
		} {
			checkNoName(t, name)
		}
	}
	for _, name := range []string{
		"", " ", "enum", "message", "Enum", "Message", "map", "group", "repeated", "oneof", "reserved", "int", "uint", "int8", "int16", "int128",
		"float32", "float64", "fixed", "sfixed", "boolean", "str", "byte", "text", "A", "p.A", "1", "0", "\x00", "\xff", "b\u00f6ol", strings.Repeat("int32", 1<<16),
	} {
		checkNoName(t, name)
	}
}

// checkNoName asks that no kind of a schema has a name, but for those that have one.
func checkNoName(t *testing.T, name string) {
	t.Helper()
	for _, x := range chapter[:15] {
		if x.name == name { // uint32 without its first byte is int32
			return
		}
	}
	if kind, is := Of(name); kind != 0 || is {
		t.Errorf("Of(%q): %d, %v", name, kind, is)
	}
}

// P10.1: Fit, Back and Right of each kind against the model.
func TestWords(t *testing.T) {
	list := words()
	for _, x := range chapter {
		for _, w := range list {
			check(t, x.kind, x.form, w)
		}
	}
}

// P10.1: what Bits say, written out.
func TestFit(t *testing.T) {
	for _, row := range []struct {
		kind       int
		bits, want uint64
	}{
		{Sint32, 3, 1<<64 - 2},
		{Sint32, 0, 0}, {Sint32, 1, 1<<64 - 1}, {Sint32, 2, 1}, {Sint32, 4, 2},
		{Sint32, 1<<32 - 2, 1<<31 - 1}, {Sint32, 1<<32 - 1, 1<<64 - 1<<31},
		{Sint32, 1 << 32, 0}, {Sint32, 1<<32 + 3, 1<<64 - 2}, {Sint32, 1<<64 - 1, 1<<64 - 1<<31}, {Sint32, 1 << 63, 0},
		{Sint64, 3, 1<<64 - 2}, {Sint64, 1 << 32, 1 << 31}, {Sint64, 1<<32 + 3, 1<<64 - 1<<31 - 2},
		{Sint64, 1<<64 - 2, 1<<63 - 1}, {Sint64, 1<<64 - 1, 1 << 63},
		{Int32, 0, 0}, {Int32, 3, 3}, {Int32, 1<<31 - 1, 1<<31 - 1}, {Int32, 1 << 31, 1<<64 - 1<<31},
		{Int32, 1<<32 - 1, 1<<64 - 1}, {Int32, 1 << 32, 0}, {Int32, 1<<32 + 5, 5}, {Int32, 1<<64 - 1, 1<<64 - 1}, {Int32, 1<<63 + 7, 7},
		{Enum, 1 << 31, 1<<64 - 1<<31}, {Enum, 1<<32 + 5, 5}, {Enum, 1<<64 - 2, 1<<64 - 2},
		{Sfixed32, 1<<31 - 1, 1<<31 - 1}, {Sfixed32, 1 << 31, 1<<64 - 1<<31}, {Sfixed32, 1<<32 - 1, 1<<64 - 1}, {Sfixed32, 1 << 32, 0},
		{Uint32, 1<<32 - 1, 1<<32 - 1}, {Uint32, 1 << 31, 1 << 31}, {Uint32, 1 << 32, 0}, {Uint32, 1<<64 - 1, 1<<32 - 1},
		{Fixed32, 1<<32 - 1, 1<<32 - 1}, {Fixed32, 1<<40 + 9, 9},
		{Float, 0x80000000, 0x80000000}, {Float, 0x7FC00001, 0x7FC00001}, {Float, 1<<40 + 9, 9},
		{Bool, 0, 0}, {Bool, 1, 1}, {Bool, 2, 1}, {Bool, 1 << 32, 1}, {Bool, 1 << 63, 1}, {Bool, 1<<64 - 1, 1},
		{Int64, 1<<64 - 1, 1<<64 - 1}, {Int64, 1 << 63, 1 << 63}, {Int64, 3, 3},
		{Uint64, 1<<64 - 1, 1<<64 - 1}, {Fixed64, 1<<64 - 1, 1<<64 - 1}, {Sfixed64, 1 << 63, 1 << 63}, {Double, 1<<64 - 1, 1<<64 - 1},
		{String, 3, 0}, {Bytes, 3, 0}, {Message, 3, 0}, {0, 3, 0}, {-1, 3, 0}, {18, 3, 0},
	} {
		if got := Fit(row.kind, row.bits); got != row.want {
			t.Errorf("Fit(%s, %#x): %#x, want %#x", Name(row.kind), row.bits, got, row.want)
		}
	}
}

// P10.1: numbers' Bits, written out; the words are told of numbers that aren't right too.
func TestBack(t *testing.T) {
	for _, row := range []struct {
		kind    int
		n, want uint64
	}{
		{Sint32, 1<<64 - 2, 3}, {Sint32, 0, 0}, {Sint32, 1<<64 - 1, 1}, {Sint32, 1, 2},
		{Sint32, 1<<31 - 1, 1<<32 - 2}, {Sint32, 1<<64 - 1<<31, 1<<32 - 1}, {Sint32, 1 << 31, 1 << 32}, {Sint32, 1 << 63, 1<<64 - 1},
		{Sint64, 1<<64 - 2, 3}, {Sint64, 1 << 31, 1 << 32}, {Sint64, 1<<63 - 1, 1<<64 - 2}, {Sint64, 1 << 63, 1<<64 - 1},
		{Sfixed32, 1<<64 - 1, 1<<32 - 1}, {Sfixed32, 1<<64 - 1<<31, 1 << 31}, {Sfixed32, 1<<31 - 1, 1<<31 - 1}, {Sfixed32, 1<<32 + 5, 5},
		{Sfixed64, 1<<64 - 1, 1<<64 - 1}, {Sfixed64, 1 << 63, 1 << 63},
		{Int32, 1<<64 - 1, 1<<64 - 1}, {Int32, 1<<64 - 1<<31, 1<<64 - 1<<31}, {Int32, 7, 7}, {Int32, 1 << 40, 1 << 40},
		{Enum, 1<<64 - 1, 1<<64 - 1}, {Enum, 7, 7},
		{Uint32, 1<<32 - 1, 1<<32 - 1}, {Uint32, 1 << 40, 1 << 40}, {Fixed32, 1<<32 - 1, 1<<32 - 1}, {Fixed32, 1 << 40, 1 << 40},
		{Float, 0x80000000, 0x80000000}, {Float, 1 << 40, 1 << 40},
		{Bool, 0, 0}, {Bool, 1, 1}, {Bool, 2, 2},
		{Int64, 1 << 63, 1 << 63}, {Uint64, 1<<64 - 1, 1<<64 - 1}, {Fixed64, 1<<64 - 1, 1<<64 - 1}, {Double, 1<<64 - 1, 1<<64 - 1},
		{String, 3, 0}, {Bytes, 3, 0}, {Message, 3, 0}, {0, 3, 0}, {-1, 3, 0}, {18, 3, 0},
	} {
		if got := Back(row.kind, row.n); got != row.want {
			t.Errorf("Back(%s, %#x): %#x, want %#x", Name(row.kind), row.n, got, row.want)
		}
	}
}

// P10.1: the bounds of each kind's numbers, written out.
func TestRight(t *testing.T) {
	for _, row := range []struct {
		kinds        []int
		right, wrong []uint64
	}{
		{
			[]int{Int32, Sint32, Sfixed32, Enum},
			[]uint64{0, 1, 1<<31 - 1, 1<<64 - 1<<31, 1<<64 - 1},
			[]uint64{1 << 31, 1<<32 - 1, 1 << 32, 1 << 63, 1<<64 - 1<<31 - 1, 1<<64 - 1<<32, 1<<63 - 1, 1<<32 + 1},
		},
		{
			[]int{Int64, Sint64, Sfixed64, Uint64, Fixed64, Double},
			[]uint64{0, 1, 1<<31 - 1, 1 << 31, 1 << 32, 1<<63 - 1, 1 << 63, 1<<64 - 1},
			nil,
		},
		{
			[]int{Uint32, Fixed32, Float},
			[]uint64{0, 1, 1 << 31, 1<<32 - 1},
			[]uint64{1 << 32, 1<<32 + 1, 1 << 63, 1<<64 - 1<<31, 1<<64 - 1},
		},
		{
			[]int{Bool},
			[]uint64{0, 1},
			[]uint64{2, 3, 256, 257, 1 << 32, 1<<32 + 1, 1 << 63, 1<<64 - 1},
		},
		{
			[]int{String, Bytes, Message, 0, -1, 18, math.MinInt, math.MaxInt},
			nil,
			[]uint64{0, 1, 2, 1 << 31, 1 << 32, 1 << 63, 1<<64 - 1},
		},
	} {
		for _, kind := range row.kinds {
			for _, n := range row.right {
				if !Right(kind, n) {
					t.Errorf("Right(%d, %#x) is false", kind, n)
				}
			}
			for _, n := range row.wrong {
				if Right(kind, n) {
					t.Errorf("Right(%d, %#x) is true", kind, n)
				}
			}
		}
	}
}

// P10.2: what Fit says is right, and said again by its Bits; a right number's Bits say it.
func TestFitAndBack(t *testing.T) {
	list := words()
	eachNumber(func(x told) {
		right := 0
		for _, w := range list {
			n := Fit(x.kind, w)
			if !Right(x.kind, n) {
				t.Fatalf("Fit(%s, %#x) is %#x, which isn't right", x.name, w, n)
			}
			if again := Fit(x.kind, Back(x.kind, n)); again != n {
				t.Fatalf("%s: the Bits of %#x say %#x", x.name, n, again)
			}
			if !Right(x.kind, w) {
				continue
			}
			right++
			if again := Fit(x.kind, Back(x.kind, w)); again != w {
				t.Fatalf("%s: the Bits of the right %#x say %#x", x.name, w, again)
			}
		}
		if right < 2 || x.form != truths && right < 1000 {
			t.Errorf("%s: %d right numbers", x.name, right)
		}
	})
}

// P10.2: a right number's Bits are those of a record of its kind's wire kind, which says it when it is read.
func TestRecords(t *testing.T) {
	list := words()
	eachNumber(func(x told) {
		for _, w := range list {
			n := Fit(x.kind, w)
			b, err := record.Put(record.Record{Tag: tag.Tag{Number: 1, Wire: Wire(x.kind)}, Bits: Back(x.kind, n)})
			if err != nil {
				t.Fatalf("%s: no record of %#x: %v", x.name, n, err)
			}
			r, _, err := record.Parse(b)
			if err != nil || Fit(x.kind, r.Bits) != n {
				t.Fatalf("%s: the record %x of %#x says %#x, %v", x.name, b, n, Fit(x.kind, r.Bits), err)
			}
		}
	})
}

// P10.2: numbers of sint32 and sint64 stand in bytes as layer 2 zigzags them.
func TestZigzags(t *testing.T) {
	for n := int64(-70000); n <= 70000; n++ {
		for _, kind := range []int{Sint32, Sint64} {
			if got := Back(kind, uint64(n)); got != varint.Zig(n) {
				t.Fatalf("Back(%s, %d): %d", Name(kind), n, got)
			}
			if got := int64(Fit(kind, varint.Zig(n))); got != n {
				t.Fatalf("Fit(%s, %d): %d, want %d", Name(kind), varint.Zig(n), got, n)
			}
		}
	}
}
