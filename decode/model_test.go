package decode

import (
	"bytes"
	"encoding/binary"
	"errors"
	"fmt"
	"slices"
	"testing"
	"unicode/utf8"

	"redline/api"
	"redline/encode"
	"redline/hold"
	"redline/schema"
	"redline/value"
)

// The models are the chapter's words, told in another way than the program tells them: first which error is met, going over the bytes from the left; then, of bytes that have none, what each field has, going over the fields. Labels, kinds and wire kinds stand as numbers here.

// modelWire is a kind's wire kind.
func modelWire(kind int) int {
	switch kind {
	case 1, 10, 12:
		return 1
	case 2, 9, 11:
		return 5
	case 14, 15, 17:
		return 2
	}
	return 0
}

func modelIsNumber(kind int) bool { return kind >= 1 && kind <= 13 || kind == 16 }

// modelFit is what Bits say of a number's kind.
func modelFit(kind int, bits uint64) uint64 {
	low := bits % (1 << 32)
	switch kind {
	case 3, 11, 16:
		return low + low>>31*(1<<64-1<<32)
	case 2, 5, 9:
		return low
	case 7:
		return low/2 ^ -(low % 2)
	case 8:
		return bits/2 ^ -(bits % 2)
	case 13:
		return min(bits, 1)
	}
	return bits
}

// modelRecord is a record of bytes.
type modelRecord struct {
	number, wire int
	bits         uint64
	text, raw    string
}

func modelVarint(b []byte) (n uint64, size int, err error) {
	n, size = binary.Uvarint(b)
	switch {
	case size > 0:
		return n, size, nil
	case size < 0 || len(b) >= 10:
		return 0, 0, api.ErrVarint
	}
	return 0, 0, api.ErrShort
}

// modelFirst is the record with which bytes begin.
func modelFirst(b []byte) (r modelRecord, err error) {
	n, at, err := modelVarint(b)
	if err != nil {
		return r, err
	}
	r.number, r.wire = int(n>>3), int(n&7)
	size := 0
	switch {
	case n >= 1<<32 || r.number == 0:
		return r, api.ErrTag
	case r.wire == 3 || r.wire == 4:
		return r, api.ErrGroup
	case r.wire > 5:
		return r, api.ErrKind
	case r.wire == 0:
		r.bits, size, err = modelVarint(b[at:])
	case r.wire == 1:
		size = 8
	case r.wire == 5:
		size = 4
	default:
		var length uint64
		length, size, err = modelVarint(b[at:])
		at += size
		size = int(min(length, 1<<40))
	}
	if err != nil {
		return r, err
	}
	if len(b)-at < size {
		return r, api.ErrShort
	}
	r.raw = string(b[:at+size])
	switch r.wire {
	case 1:
		r.bits = binary.LittleEndian.Uint64(b[at:])
	case 2:
		r.text = string(b[at : at+size])
	case 5:
		r.bits = uint64(binary.LittleEndian.Uint32(b[at:]))
	}
	return r, nil
}

// modelField is the field by which a record is known, and whether it is.
func modelField(s schema.Schema, message int, r modelRecord) (schema.Field, bool) {
	for _, f := range s.Messages[message].Fields {
		if f.Number == r.number {
			wire := modelWire(f.Kind)
			if f.Label == 4 {
				wire = 2
			}
			return f, r.wire == wire || r.wire == 2 && f.Label == 3 && modelIsNumber(f.Kind)
		}
	}
	return schema.Field{}, false
}

// modelWalk goes over records up to the first error.
func modelWalk(b []byte, take func(r modelRecord) error) error {
	for len(b) > 0 {
		r, err := modelFirst(b)
		if err != nil {
			return err
		}
		if err := take(r); err != nil {
			return err
		}
		b = b[len(r.raw):]
	}
	return nil
}

// modelError is the first error of a message's bytes, left being how many messages more may lie within it.
func modelError(s schema.Schema, message int, b []byte, left int) error {
	return modelWalk(b, func(r modelRecord) error {
		f, known := modelField(s, message, r)
		switch {
		case !known:
			return nil
		case f.Label == 4:
			return modelEntryError(s, f, r, left)
		case f.Label == 3 && modelIsNumber(f.Kind) && r.wire == 2:
			return modelRowError(f.Kind, []byte(r.text))
		}
		return modelPartError(s, f.Kind, f.Type, r.text, left)
	})
}

func modelPartError(s schema.Schema, kind, of int, text string, left int) error {
	switch {
	case kind == 14 && !utf8.ValidString(text):
		return api.ErrRune
	case kind == 17 && left == 0:
		return api.ErrDepth
	case kind == 17:
		return modelError(s, of, []byte(text), left-1)
	}
	return nil
}

func modelRowError(kind int, b []byte) error {
	width := map[int]int{1: 8, 5: 4}[modelWire(kind)]
	for len(b) > 0 && width == 0 {
		_, size, err := modelVarint(b)
		if err != nil {
			return err
		}
		b = b[size:]
	}
	if width > 0 && len(b)%width > 0 {
		return api.ErrShort
	}
	return nil
}

func modelEntryError(s schema.Schema, f schema.Field, r modelRecord, left int) error {
	told := false
	err := modelWalk([]byte(r.text), func(r modelRecord) error {
		switch {
		case r.number == 1 && r.wire == modelWire(f.MapKey):
			return modelPartError(s, f.MapKey, 0, r.text, left)
		case r.number == 2 && r.wire == modelWire(f.Kind):
			told = true
			return modelPartError(s, f.Kind, f.Type, r.text, left)
		}
		return nil
	})
	if err == nil && !told && f.Kind == 17 && left == 0 {
		return api.ErrDepth // the message that isn't there lies too deep as well
	}
	return err
}

// modelValue is the value of a message's bytes that have no error.
func modelValue(s schema.Schema, message int, b []byte) value.Value {
	v := value.Value{Kind: value.Message}
	of := map[int][]modelRecord{}
	modelWalk(b, func(r modelRecord) error {
		f, known := modelField(s, message, r)
		if !known {
			v.Rest += r.raw
			return nil
		}
		for _, other := range s.Messages[message].Fields {
			if f.Oneof > 0 && other.Oneof == f.Oneof && other.Number != f.Number {
				of[other.Number] = nil
			}
		}
		of[f.Number] = append(of[f.Number], r)
		return nil
	})
	for _, f := range s.Messages[message].Fields {
		if x := modelHas(s, f, of[f.Number]); x.Kind != value.None {
			v.Fields = append(v.Fields, value.Field{Number: f.Number, Value: x})
		}
	}
	return v
}

// modelHas is what a field has of its records.
func modelHas(s schema.Schema, f schema.Field, records []modelRecord) value.Value {
	switch {
	case len(records) == 0:
		return value.Value{}
	case f.Label == 3:
		return modelList(s, f, records)
	case f.Label == 4:
		return modelTable(s, f, records)
	}
	v := modelPart(s, f.Kind, f.Type, records)
	if f.Label == 1 && f.Oneof == 0 && (v.Kind == value.Number && v.Number == 0 || v.Kind == value.Text && v.Text == "") {
		return value.Value{}
	}
	return v
}

// modelPart is what records say of one part: the last one, or, of a message, all, one behind the other.
func modelPart(s schema.Schema, kind, of int, records []modelRecord) value.Value {
	var last modelRecord
	all := ""
	for _, r := range records {
		last = r
		all += r.text
	}
	switch {
	case kind == 17:
		return modelValue(s, of, []byte(all))
	case modelIsNumber(kind):
		return value.Num(modelFit(kind, last.bits))
	}
	return value.Str(last.text)
}

func modelList(s schema.Schema, f schema.Field, records []modelRecord) value.Value {
	v := value.Value{Kind: value.List}
	for _, r := range records {
		if !modelIsNumber(f.Kind) || r.wire != 2 {
			v.List = append(v.List, modelPart(s, f.Kind, f.Type, []modelRecord{r}))
			continue
		}
		// Each packed number is what a record of its own would be.
		for b := []byte(r.text); len(b) > 0; {
			one, _ := modelFirst(append([]byte{byte(8 | modelWire(f.Kind))}, b...))
			v.List = append(v.List, value.Num(modelFit(f.Kind, one.bits)))
			b = b[len(one.raw)-1:]
		}
	}
	if len(v.List) == 0 {
		return value.Value{}
	}
	return v
}

func modelTable(s schema.Schema, f schema.Field, records []modelRecord) value.Value {
	var v value.Value
	for _, r := range records {
		var keys, values []modelRecord
		modelWalk([]byte(r.text), func(r modelRecord) error {
			if r.number == 1 && r.wire == modelWire(f.MapKey) {
				keys = append(keys, r)
			}
			if r.number == 2 && r.wire == modelWire(f.Kind) {
				values = append(values, r)
			}
			return nil
		})
		v = value.Put(v, modelPart(s, f.MapKey, 0, keys), modelPart(s, f.Kind, f.Type, values))
	}
	return v
}

// modelInto is a value into which bytes are read: a value that is held is what its own bytes say.
func modelInto(s schema.Schema, message int, v value.Value, b []byte, l Limits) (value.Value, error) {
	if l.Depth < 1 || l.Depth > 64 || l.Bytes < 0 || l.Bytes > 1<<18 {
		return value.Value{}, api.ErrRange
	}
	if err := hold.Check(s, message, v); err != nil {
		return value.Value{}, err
	}
	if value.Depth(v) > l.Depth {
		return value.Value{}, api.ErrDepth
	}
	if len(b) > l.Bytes {
		return value.Value{}, api.ErrLong
	}
	if err := modelError(s, message, b, l.Depth-1); err != nil {
		return value.Value{}, err
	}
	own, _ := encode.Of(s, message, v)
	made := modelValue(s, message, slices.Concat(own, b))
	if own, _ = encode.Of(s, message, made); len(own) > l.Bytes {
		return value.Value{}, api.ErrLong
	}
	return made, nil
}

// isError tells whether an error is just that one.
func isError(got, want error) bool {
	if want == nil || got == nil {
		return want == nil && got == nil
	}
	return errors.Is(got, want)
}

// told is bytes, or a value, as a test tells them: not the whole of long ones.
func told(x any) string {
	text := fmt.Sprintf("% x", x)
	if v, is := x.(value.Value); is {
		text = fmt.Sprintf("%+q", fmt.Sprint(v))
	}
	return text[:min(len(text), 400)]
}

// isZero tells whether a value is the zero one.
func isZero(v value.Value) bool {
	return v.Kind == 0 && v.Number == 0 && v.Text == "" && v.Rest == "" && len(v.Fields)+len(v.List)+len(v.Pairs) == 0
}

// wantInto holds what Into answers against a value, or an error, and the model too. A value must be held, and be decoded from its bytes.
func wantInto(t *testing.T, s schema.Schema, message int, v value.Value, b []byte, l Limits, want value.Value, wantErr error) {
	t.Helper()
	given := bytes.Clone(b)
	got, err := Into(s, message, v, b, l)
	if !isError(err, wantErr) || !value.Same(got, want) || err != nil && !isZero(got) {
		t.Errorf("Into(%d, %s, %s, %v): %s, %v, want %s, %v", message, told(v), told(b), l, told(got), err, told(want), wantErr)
	}
	if model, modelErr := modelInto(s, message, v, b, l); !isError(modelErr, wantErr) || !value.Same(model, want) {
		t.Errorf("the model of Into(%d, %s, %s, %v): %s, %v, want %s, %v", message, told(v), told(b), l, told(model), modelErr, told(want), wantErr)
	}
	if !bytes.Equal(b, given) {
		t.Errorf("Into(%d, %s, %s, %v) changed the bytes: %s", message, told(v), told(given), l, told(b))
	}
	if err == nil {
		wantBack(t, s, message, got, l)
	}
}

// wantBack holds a value that was decoded against P16.2: it is held, and its bytes are decoded as it.
func wantBack(t *testing.T, s schema.Schema, message int, v value.Value, l Limits) {
	t.Helper()
	if err := hold.Check(s, message, v); err != nil {
		t.Errorf("%s of %d isn't held: %v", told(v), message, err)
	}
	own, err := encode.Of(s, message, v)
	if err != nil || len(own) > l.Bytes || value.Depth(v) > l.Depth {
		t.Errorf("%s of %d: %d bytes, %v, depth %d, beyond %v", told(v), message, len(own), err, value.Depth(v), l)
	}
	if again, err := Of(s, message, own, l); err != nil || !value.Same(again, v) {
		t.Errorf("%s of %d, decoded from its bytes %s: %s, %v", told(v), message, told(own), told(again), err)
	}
}

// wantModel holds what Into answers against the model, and tells which error that is.
func wantModel(t *testing.T, s schema.Schema, message int, v value.Value, b []byte, l Limits) error {
	t.Helper()
	want, err := modelInto(s, message, v, b, l)
	wantInto(t, s, message, v, b, l, want, err)
	return err
}

// wantValue holds what Of answers, by the limits of values, against a value.
func wantValue(t *testing.T, s schema.Schema, message int, b string, want value.Value) {
	t.Helper()
	wantInto(t, s, message, empty(), []byte(b), Values(), want, nil)
	if got, err := Of(s, message, []byte(b), Values()); err != nil || !value.Same(got, want) {
		t.Errorf("Of(%d, %s): %s, %v, want %s", message, told(b), told(got), err, told(want))
	}
}

// wantError holds what Of answers, by the limits of values, against an error, beside which there is nothing.
func wantError(t *testing.T, s schema.Schema, message int, b string, want error) {
	t.Helper()
	if want == nil {
		t.Fatal("no error is asked for")
	}
	wantInto(t, s, message, empty(), []byte(b), Values(), value.Value{}, want)
	if got, err := Of(s, message, []byte(b), Values()); !isError(err, want) || !isZero(got) {
		t.Errorf("Of(%d, %s): %s, %v, want %v", message, told(b), told(got), err, want)
	}
}

// wantParted holds a message's bytes against P16.2: read in two parts, they are read as in one.
func wantParted(t *testing.T, s schema.Schema, message int, a, b []byte, l Limits) {
	t.Helper()
	first, err := Of(s, message, a, l)
	if err != nil {
		return
	}
	got, err := Into(s, message, first, b, l)
	want, wantErr := Of(s, message, slices.Concat(a, b), l)
	if errors.Is(err, api.ErrLong) || errors.Is(wantErr, api.ErrLong) {
		return // the bytes of both together may be too many, where those of each aren't
	}
	if !isError(err, wantErr) || !value.Same(got, want) {
		t.Errorf("%s and %s of %d: %s, %v, want %s, %v", told(a), told(b), message, told(got), err, told(want), wantErr)
	}
}
