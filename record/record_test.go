package record

import (
	"encoding/binary"
	"errors"
	"math"
	"slices"
	"strings"
	"testing"

	"redline/api"
	"redline/tag"
	"redline/varint"
)

func sameError(a, b error) bool {
	return errors.Is(a, b) && (a == nil) == (b == nil)
}

// modelParse is Parse in the chapter's words, above layers 2 and 3.
func modelParse(b []byte) (Record, int, error) {
	t, at, err := tag.Parse(b)
	if err != nil {
		return Record{}, 0, err
	}
	r := Record{Tag: t}
	must := uint64(8) // how many bytes must follow
	switch t.Wire {
	case 0, 2:
		n, size, err := varint.Parse(b[at:])
		if err != nil {
			return Record{}, 0, err
		}
		r.Bits, must = n, 0
		if t.Wire == 2 {
			r.Bits, must = 0, n
		}
		at += size
	case 5:
		must = 4
	}
	if must > uint64(len(b)-at) {
		return Record{}, 0, api.ErrShort
	}
	end := at + int(must)
	switch t.Wire {
	case 1:
		r.Bits = binary.LittleEndian.Uint64(b[at:end])
	case 2:
		r.Text = string(b[at:end])
	case 5:
		r.Bits = uint64(binary.LittleEndian.Uint32(b[at:end]))
	}
	r.Raw = string(b[:end])
	return r, end, nil
}

// modelAll is All in the chapter's words: it goes from the end of each record to the next one's.
func modelAll(b []byte) ([]Record, error) {
	var list []Record
	for at := 0; at < len(b); {
		r, size, err := modelParse(b[at:])
		if err != nil {
			return nil, err
		}
		list = append(list, r)
		at += size
	}
	return list, nil
}

// modelCheck is Check in the chapter's words, above layer 3.
func modelCheck(r Record) error {
	if err := tag.Check(r.Tag); err != nil {
		return err
	}
	text := r.Tag.Wire == 2
	if text && r.Bits > 0 || !text && len(r.Text) > 0 {
		return api.ErrForm
	}
	if r.Tag.Wire == 5 && r.Bits > math.MaxUint32 {
		return api.ErrRange
	}
	return nil
}

// modelPut is the bytes of what is a record.
func modelPut(r Record) []byte {
	b := shortest(nil, 8*uint64(r.Tag.Number)+uint64(r.Tag.Wire))
	switch r.Tag.Wire {
	case 0:
		return shortest(b, r.Bits)
	case 1:
		return binary.LittleEndian.AppendUint64(b, r.Bits)
	case 2:
		return append(shortest(b, uint64(len(r.Text))), r.Text...)
	}
	return binary.LittleEndian.AppendUint32(b, uint32(r.Bits))
}

func shortest(b []byte, n uint64) []byte {
	for ; n >= 128; n /= 128 {
		b = append(b, byte(128+n%128))
	}
	return append(b, byte(n))
}

// checkBytes holds Parse and All of bytes against the model, that the bytes stay, and that Raws of all are the bytes.
func checkBytes(t *testing.T, b []byte) {
	t.Helper()
	before := string(b)
	got, size, err := Parse(b)
	want, wantSize, wantErr := modelParse(b)
	if got != want || size != wantSize || !sameError(err, wantErr) {
		t.Fatalf("Parse(%x): %+v, %d, %v, want %+v, %d, %v", b, got, size, err, want, wantSize, wantErr)
	}
	list, err := All(b)
	wantList, wantErr := modelAll(b)
	if !slices.Equal(list, wantList) || !sameError(err, wantErr) {
		t.Fatalf("All(%x): %+v, %v, want %+v, %v", b, list, err, wantList, wantErr)
	}
	if err != nil && list != nil {
		t.Fatalf("All(%x): a list beside %v", b, err)
	}
	if err == nil && Raws(list) != before {
		t.Fatalf("Raws(All(%x)): %x", b, Raws(list))
	}
	if string(b) != before {
		t.Fatalf("%x became %x", before, b)
	}
}

// P4.1, P4.2: of all rows of up to two bytes, and of all of three that begin with a tag of one byte of each kind.
func TestSmallRows(t *testing.T) {
	checkBytes(t, nil)
	checkBytes(t, []byte{})
	for first := range 256 {
		checkBytes(t, []byte{byte(first)})
		for second := range 256 {
			checkBytes(t, []byte{byte(first), byte(second)})
			checkBytes(t, []byte{byte(first), byte(second), 1, 2, 3, 4, 5, 6, 7, 8, 9})
			for _, head := range []byte{0, 8, 9, 10, 11, 12, 13, 14, 15, 120, 127} {
				checkBytes(t, []byte{head, byte(first), byte(second)})
			}
		}
	}
}

// P4.1, P4.2: of all rows of up to six bytes out of those that tags, lengths and varints are made of.
func TestRowsOfTelling(t *testing.T) {
	letters := []byte{0, 1, 2, 8, 10, 13, 128, 255}
	rows := [][]byte{nil}
	for range 6 {
		var longer [][]byte
		for _, row := range rows {
			for _, x := range letters {
				longer = append(longer, append(slices.Clone(row), x))
			}
		}
		for _, row := range longer {
			checkBytes(t, row)
		}
		rows = longer
	}
}

// parts are records of all kinds, by their bytes: of short and long varints, of numbers and texts at their edges.
func parts() []string {
	long := strings.Repeat("x", 127)
	return []string{
		"\x08\x00", "\x08\x01", "\x08\x7f", "\x08\x80\x01", "\x08\xff\xff\xff\xff\xff\xff\xff\xff\xff\x01",
		"\x08\x80\x00", "\x08\x81\x80\x80\x80\x80\x80\x80\x80\x80\x00", "\x88\x00\x01", "\xf8\xff\xff\xff\x0f\x05",
		"\x09\x00\x00\x00\x00\x00\x00\x00\x00", "\x09\x01\x02\x03\x04\x05\x06\x07\x08", "\x89\x80\x00\xff\xff\xff\xff\xff\xff\xff\xff",
		"\x0d\x00\x00\x00\x00", "\x0d\x01\x02\x03\x04", "\xfd\xff\xff\xff\x0f\xff\xff\xff\xff",
		"\x0a\x00", "\x0a\x80\x00", "\x0a\x01a", "\x0a\x02\x08\x01", "\x0a\x81\x80\x00\xff", "\x8a\x00\x03\x00\x80\xff",
		"\x0a\x7f" + long, "\x0a\x80\x01" + long + "y", "\x0a\x81\x01\x0b" + long + "z", "\xfa\xff\xff\xff\x0f\x01\x00",
	}
}

// P4.1, P4.2: of records one behind the other, and of these with something behind them that is none.
func TestRows(t *testing.T) {
	bad := []string{"", "\x80", "\x00", "\x0b\x00", "\x0c", "\x0e\x01", "\x08", "\x0a\x02a", "\x0d\x01\x02\x03", "\x09\x01\x02\x03\x04\x05\x06\x07"}
	for _, first := range parts() {
		for _, second := range parts() {
			for _, third := range bad {
				checkBytes(t, []byte(first+second+third))
				checkBytes(t, []byte(first+third+second))
			}
		}
	}
}

// P4.1: a record of which an end is missing is too short, wherever it is cut, and nothing behind it changes it.
func TestCutShort(t *testing.T) {
	for _, part := range parts() {
		for cut := range len(part) {
			r, size, err := Parse([]byte(part[:cut]))
			if r != (Record{}) || size != 0 || !errors.Is(err, api.ErrShort) {
				t.Fatalf("Parse(%x): %+v, %d, %v", part[:cut], r, size, err)
			}
		}
		want, size, err := Parse([]byte(part))
		if want.Raw != part || size != len(part) || err != nil {
			t.Fatalf("Parse(%x): %+v, %d, %v", part, want, size, err)
		}
		for _, behind := range []string{"\x00", "\x80", "\xff\xff", part} {
			if got, size, err := Parse([]byte(part + behind)); got != want || size != len(part) || err != nil {
				t.Fatalf("Parse(%x, %x): %+v, %d, %v", part, behind, got, size, err)
			}
		}
	}
}

// P4.1: records that are written out.
func TestParseWrittenOut(t *testing.T) {
	for _, row := range []struct {
		b    string
		want Record
	}{
		{"\x08\x01", Record{Tag: tag.Tag{Number: 1, Wire: tag.Varint}, Bits: 1}},
		{"\x10\xac\x02", Record{Tag: tag.Tag{Number: 2, Wire: tag.Varint}, Bits: 300}},
		{"\x08\xff\xff\xff\xff\xff\xff\xff\xff\xff\x01", Record{Tag: tag.Tag{Number: 1, Wire: tag.Varint}, Bits: math.MaxUint64}},
		{"\x88\x00\x85\x00", Record{Tag: tag.Tag{Number: 1, Wire: tag.Varint}, Bits: 5}},
		{"\x09\x01\x02\x03\x04\x05\x06\x07\x08", Record{Tag: tag.Tag{Number: 1, Wire: tag.Fixed64}, Bits: 0x0807060504030201}},
		{"\x1d\x01\x02\x03\x84", Record{Tag: tag.Tag{Number: 3, Wire: tag.Fixed32}, Bits: 0x84030201}},
		{"\x12\x02ab", Record{Tag: tag.Tag{Number: 2, Wire: tag.Bytes}, Text: "ab"}},
		{"\x12\x00", Record{Tag: tag.Tag{Number: 2, Wire: tag.Bytes}}},
		{"\x12\x82\x00\xff\x00", Record{Tag: tag.Tag{Number: 2, Wire: tag.Bytes}, Text: "\xff\x00"}},
		{"\xfa\xff\xff\xff\x0f\x01\x80", Record{Tag: tag.Tag{Number: api.MaxNumber, Wire: tag.Bytes}, Text: "\x80"}},
	} {
		row.want.Raw = row.b
		got, size, err := Parse([]byte(row.b + "\x00"))
		if got != row.want || size != len(row.b) || err != nil {
			t.Errorf("Parse(%x): %+v, %d, %v, want %+v", row.b, got, size, err, row.want)
		}
	}
}

// P4.1: Parse's errors of rows that are written out, and which one comes first; All has them behind a record, too.
func TestErrorsWrittenOut(t *testing.T) {
	for _, row := range []struct {
		b    string
		want error
	}{
		{"\x80", api.ErrShort},
		{"\xff\xff\xff\xff\xff\xff\xff\xff\xff\x02", api.ErrVarint},
		{"\x00\x01", api.ErrTag},
		{"\x80\x80\x80\x80\x10\x01", api.ErrTag},
		{"\x0b", api.ErrGroup},
		{"\x0c\x01", api.ErrGroup},
		{"\x0e\x01", api.ErrKind},
		{"\x0f\x01", api.ErrKind},
		{"\x0f\x80", api.ErrKind},
		{"\x08", api.ErrShort},
		{"\x08\xff\xff\xff\xff\xff\xff\xff\xff\xff", api.ErrShort},
		{"\x08\xff\xff\xff\xff\xff\xff\xff\xff\xff\x02", api.ErrVarint},
		{"\x0a", api.ErrShort},
		{"\x0a\x80\x80\x80\x80\x80\x80\x80\x80\x80\x80", api.ErrVarint},
		{"\x0a\x01", api.ErrShort},
		{"\x0a\x03ab", api.ErrShort},
		// Lengths that as an int would be below 0, or as fewer bits small.
		{"\x0a\xff\xff\xff\xff\xff\xff\xff\xff\xff\x01ab", api.ErrShort},
		{"\x0a\x80\x80\x80\x80\x80\x80\x80\x80\x80\x01ab", api.ErrShort},
		{"\x0a\xff\xff\xff\xff\xff\xff\xff\xff\x7fab", api.ErrShort},
		{"\x0a\x81\x80\x80\x80\x10ab", api.ErrShort},
		{"\x0a\x81\x80\x80\x80\x08ab", api.ErrShort},
		{"\x0d\x01\x02\x03", api.ErrShort},
		{"\x09\x01\x02\x03\x04\x05\x06\x07", api.ErrShort},
	} {
		r, size, err := Parse([]byte(row.b))
		if r != (Record{}) || size != 0 || !sameError(err, row.want) {
			t.Errorf("Parse(%x): %+v, %d, %v, want %v", row.b, r, size, err, row.want)
		}
		list, err := All([]byte("\x08\x01" + row.b))
		if list != nil || !sameError(err, row.want) {
			t.Errorf("All(8, 1, %x): %+v, %v, want %v", row.b, list, err, row.want)
		}
	}
	if r, size, err := Parse(nil); r != (Record{}) || size != 0 || !errors.Is(err, api.ErrShort) {
		t.Errorf("Parse(nil): %+v, %d, %v", r, size, err)
	}
}

// P4.1: All answers the first error, not a later one.
func TestAllFirstError(t *testing.T) {
	for _, row := range []struct {
		b    string
		want error
	}{
		{"\x08\x01\x00\x0b", api.ErrTag},
		{"\x08\x01\x0b\x00", api.ErrGroup},
		{"\x0f\x0b\x80", api.ErrKind},
		{"\x08\x01\x12\x05ab\x00", api.ErrShort},
	} {
		if list, err := All([]byte(row.b)); list != nil || !sameError(err, row.want) {
			t.Errorf("All(%x): %+v, %v, want %v", row.b, list, err, row.want)
		}
	}
	for _, none := range [][]byte{nil, {}} {
		if list, err := All(none); len(list) != 0 || err != nil {
			t.Errorf("All of no bytes: %+v, %v", list, err)
		}
	}
}

// eachRecord calls with tags that are and aren't, and Bits and Texts at all edges: most of them are no records.
func eachRecord(call func(r Record)) {
	long := strings.Repeat("\x80", 128)
	for _, number := range []int{math.MinInt, -1, 0, 1, 15, 16, 2047, 2048, 1<<18 - 1, 1 << 18, 1 << 25, api.MaxNumber, api.MaxNumber + 1, math.MaxInt} {
		for wire := -1; wire <= 9; wire++ {
			for _, bit := range []uint64{0, 1, 7, 8, 14, 31, 32, 33, 56, 63} {
				for _, bits := range []uint64{1<<bit - 1, 1 << bit, ^(uint64(1) << bit), 0xa5a5a5a5a5a5a5a5 >> bit} {
					for _, text := range []string{"", "\x00", "ab", long, long[1:]} {
						call(Record{Tag: tag.Tag{Number: number, Wire: wire}, Bits: bits, Text: text})
					}
				}
			}
		}
	}
}

// P4.1, P4.2: Check and Put of all kinds of records; what is put is parsed as it was, whatever stands behind it and Raw said.
func TestCheckAndPut(t *testing.T) {
	good := 0
	eachRecord(func(r Record) {
		want := modelCheck(r)
		for _, raw := range []string{"", "\x08\x01", "\xff"} {
			r.Raw = raw
			if err := Check(r); !sameError(err, want) {
				t.Fatalf("Check(%+v): %v, want %v", r, err, want)
			}
			b, err := Put(r)
			if !sameError(err, want) {
				t.Fatalf("Put(%+v): %v, want %v", r, err, want)
			}
			if want != nil && b != nil {
				t.Fatalf("Put(%+v): %x beside %v", r, b, err)
			}
			if want == nil {
				good++
				if wantBytes := modelPut(r); !slices.Equal(b, wantBytes) {
					t.Fatalf("Put(%+v): %x, want %x", r, b, wantBytes)
				}
				checkBack(t, r, b)
			}
		}
	})
	if good < 1000 {
		t.Fatalf("only %d records", good)
	}
}

// checkBack holds a record against what is parsed of its bytes.
func checkBack(t *testing.T, r Record, b []byte) {
	t.Helper()
	r.Raw = string(b)
	for _, behind := range [][]byte{nil, {0}, {1}, {128}, {255, 255, 255}, b} {
		got, size, err := Parse(slices.Concat(b, behind))
		if got != r || size != len(b) || err != nil {
			t.Fatalf("Parse(%x, %x): %+v, %d, %v, want %+v", b, behind, got, size, err, r)
		}
	}
}

// P4.1: Check's errors, and which one comes first, of records that are written out.
func TestCheckWrittenOut(t *testing.T) {
	one := func(wire int) tag.Tag { return tag.Tag{Number: 1, Wire: wire} }
	for _, row := range []struct {
		r    Record
		want error
	}{
		{Record{Tag: one(tag.Varint), Bits: math.MaxUint64}, nil},
		{Record{Tag: one(tag.Fixed64), Bits: math.MaxUint64}, nil},
		{Record{Tag: one(tag.Fixed32), Bits: 1<<32 - 1}, nil},
		{Record{Tag: one(tag.Bytes), Text: "\xff", Raw: "none"}, nil},
		{Record{}, api.ErrTag},
		{Record{Tag: tag.Tag{Number: 0, Wire: 3}, Text: "a"}, api.ErrTag},
		{Record{Tag: tag.Tag{Number: api.MaxNumber + 1, Wire: tag.Bytes}, Bits: 1}, api.ErrTag},
		{Record{Tag: one(3), Bits: 1, Text: "a"}, api.ErrGroup},
		{Record{Tag: one(4)}, api.ErrGroup},
		{Record{Tag: one(6), Bits: 1 << 32, Text: "a"}, api.ErrKind},
		{Record{Tag: one(-1)}, api.ErrKind},
		{Record{Tag: one(tag.Bytes), Bits: 1}, api.ErrForm},
		{Record{Tag: one(tag.Bytes), Bits: 1 << 32, Text: "a"}, api.ErrForm},
		{Record{Tag: one(tag.Varint), Text: "a"}, api.ErrForm},
		{Record{Tag: one(tag.Fixed64), Text: "a"}, api.ErrForm},
		{Record{Tag: one(tag.Fixed32), Text: "a", Bits: 1 << 32}, api.ErrForm},
		{Record{Tag: one(tag.Fixed32), Bits: 1 << 32}, api.ErrRange},
		{Record{Tag: one(tag.Fixed32), Bits: math.MaxUint64}, api.ErrRange},
	} {
		if err := Check(row.r); !sameError(err, row.want) {
			t.Errorf("Check(%+v): %v, want %v", row.r, err, row.want)
		}
		b, err := Put(row.r)
		if !sameError(err, row.want) || (err != nil && b != nil) {
			t.Errorf("Put(%+v): %x, %v, want %v", row.r, b, err, row.want)
		}
	}
}

// P4.1: the bytes of records that are written out: the varints are the shortest ones, whatever Raw says.
func TestPutWrittenOut(t *testing.T) {
	for _, row := range []struct {
		b, want string
	}{
		{"\x08\x01", "\x08\x01"},
		{"\x88\x80\x00\x81\x00", "\x08\x01"},
		{"\x08\x80\x80\x00", "\x08\x00"},
		{"\x8a\x00\x82\x80\x00ab", "\x0a\x02ab"},
		{"\x0a\x80\x00", "\x0a\x00"},
		{"\x89\x00\x01\x02\x03\x04\x05\x06\x07\x80", "\x09\x01\x02\x03\x04\x05\x06\x07\x80"},
		{"\x8d\x00\x01\x02\x03\x80", "\x0d\x01\x02\x03\x80"},
	} {
		r, _, err := Parse([]byte(row.b))
		if err != nil || r.Raw != row.b {
			t.Fatalf("Parse(%x): %+v, %v", row.b, r, err)
		}
		if b, err := Put(r); string(b) != row.want || err != nil {
			t.Errorf("Put(%+v): %x, %v, want %x", r, b, err, row.want)
		}
	}
}

// P4.1, P4.2: PutAll is all records' bytes in order, which All parses as they were.
func TestPutAll(t *testing.T) {
	var list []Record
	var want []byte
	eachRecord(func(r Record) {
		if modelCheck(r) == nil {
			b := modelPut(r)
			r.Raw = string(b)
			list = append(list, r)
			want = append(want, b...)
		}
	})
	b, err := PutAll(list)
	if !slices.Equal(b, want) || err != nil {
		t.Fatalf("PutAll of %d records: %d bytes, %v, want %d", len(list), len(b), err, len(want))
	}
	if got, err := All(b); !slices.Equal(got, list) || err != nil {
		t.Fatalf("All of them: %d records, %v, want %d", len(got), err, len(list))
	}
	for _, none := range [][]Record{nil, {}} {
		if b, err := PutAll(none); len(b) != 0 || err != nil {
			t.Errorf("PutAll of none: %x, %v", b, err)
		}
	}
}

// P4.1: PutAll answers the first error, and no bytes beside it.
func TestPutAllFirstError(t *testing.T) {
	good := Record{Tag: tag.Tag{Number: 1, Wire: tag.Varint}, Bits: 1}
	group := Record{Tag: tag.Tag{Number: 1, Wire: 3}}
	form := Record{Tag: tag.Tag{Number: 1, Wire: tag.Varint}, Text: "a"}
	for _, row := range []struct {
		list []Record
		want error
	}{
		{[]Record{group}, api.ErrGroup},
		{[]Record{good, group, form}, api.ErrGroup},
		{[]Record{good, form, group, good}, api.ErrForm},
		{[]Record{good, good, {}}, api.ErrTag},
	} {
		if b, err := PutAll(row.list); b != nil || !sameError(err, row.want) {
			t.Errorf("PutAll(%+v): %x, %v, want %v", row.list, b, err, row.want)
		}
	}
}

// P4.1: Raws is the Raw texts alone, in order, whatever they and the records say.
func TestRaws(t *testing.T) {
	for _, row := range []struct {
		list []Record
		want string
	}{
		{nil, ""},
		{[]Record{}, ""},
		{[]Record{{}, {}}, ""},
		{[]Record{{Raw: "b"}, {Raw: "a"}, {}, {Raw: "\x00\xff"}, {Raw: "b"}}, "ba\x00\xffb"},
		{[]Record{{Tag: tag.Tag{Number: 1, Wire: tag.Bytes}, Bits: 9, Text: "text", Raw: "\x80"}}, "\x80"},
	} {
		if got := Raws(row.list); got != row.want {
			t.Errorf("Raws(%+v): %x, want %x", row.list, got, row.want)
		}
	}
}

// P4.1: what is parsed and put is apart from what was given, and from what another call answers.
func TestApart(t *testing.T) {
	room := []byte("\x12\x02ab\x08\x01\x09\x01\x02\x03\x04\x05\x06\x07\x08rest")
	given := room[:15]
	want, err := modelAll(given)
	if err != nil || len(want) != 3 {
		t.Fatal(want, err)
	}
	list, _ := All(given)
	for i := range given {
		given[i] = 0xee
	}
	if !slices.Equal(list, want) {
		t.Fatalf("All: %+v with the bytes that were given, want %+v", list, want)
	}
	if string(room[15:]) != "rest" {
		t.Fatalf("the room behind the bytes became %x", room[15:])
	}
	first, _ := PutAll(list)
	for i := range first {
		first[i] = 0xee
	}
	if again, err := PutAll(list); Raws(list) != string(again) || !slices.Equal(list, want) || err != nil {
		t.Fatalf("PutAll: %x, %v behind a change of what it answered", again, err)
	}
}

// P4.1: bytes of many records are parsed in steps that don't grow with all that stands behind each.
func TestManyRecords(t *testing.T) {
	const many = 1 << 18
	part := "\x08\x01\x12\x02ab\x0d\x01\x02\x03\x04\x09\x01\x02\x03\x04\x05\x06\x07\x08"
	b := []byte(strings.Repeat(part, many))
	list, err := All(b)
	if len(list) != 4*many || err != nil {
		t.Fatalf("All: %d records, %v", len(list), err)
	}
	if Raws(list) != string(b) {
		t.Fatal("Raws: not the bytes")
	}
	if again, err := PutAll(list); !slices.Equal(again, b) || err != nil {
		t.Fatalf("PutAll: %d bytes, %v", len(again), err)
	}
}
