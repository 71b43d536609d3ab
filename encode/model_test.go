package encode

import (
	"bytes"
	"encoding/binary"
	"errors"
	"slices"
	"testing"

	"redline/hold"
	"redline/schema"
	"redline/value"
)

// The models are the chapter's words, told in another way than the program tells them: from the beginning to the end. Labels, kinds and wire kinds stand as numbers here.

// modelWire is a kind's wire kind.
func modelWire(kind int) int {
	switch kind {
	case 1, 10, 12:
		return 1
	case 2, 9, 11:
		return 5
	case 14, 15, 17:
		return 2
	}
	return 0
}

func modelIsNumber(kind int) bool { return kind >= 1 && kind <= 13 || kind == 16 }

// modelNumber is the bytes of a number, without a tag.
func modelNumber(kind int, n uint64) []byte {
	switch {
	case modelWire(kind) == 1:
		return binary.LittleEndian.AppendUint64(nil, n)
	case modelWire(kind) == 5:
		return binary.LittleEndian.AppendUint32(nil, uint32(n&0xffffffff))
	case (kind == 7 || kind == 8) && int64(n) < 0:
		return binary.AppendUvarint(nil, 2*-(n+1)+1) // -1 is 1, -2 is 3
	case kind == 7 || kind == 8:
		return binary.AppendUvarint(nil, 2*n)
	}
	return binary.AppendUvarint(nil, n)
}

func modelTag(number, wire int) []byte {
	return binary.AppendUvarint(nil, uint64(number)<<3|uint64(wire))
}

// modelText is a record of Bytes.
func modelText(number int, text []byte) []byte {
	return slices.Concat(modelTag(number, 2), binary.AppendUvarint(nil, uint64(len(text))), text)
}

// modelPart is a record that holds one part of a kind.
func modelPart(s schema.Schema, number, kind, of int, v value.Value) []byte {
	switch {
	case modelIsNumber(kind):
		return append(modelTag(number, modelWire(kind)), modelNumber(kind, v.Number)...)
	case kind == 17:
		return modelText(number, modelOf(s, of, v))
	}
	return modelText(number, []byte(v.Text))
}

func modelField(s schema.Schema, f schema.Field, v value.Value) []byte {
	var b []byte
	switch {
	case f.Label == 3 && f.Packed:
		for _, x := range v.List {
			b = append(b, modelNumber(f.Kind, x.Number)...)
		}
		return modelText(f.Number, b)
	case f.Label == 3:
		for _, x := range v.List {
			b = append(b, modelPart(s, f.Number, f.Kind, f.Type, x)...)
		}
		return b
	case f.Label == 4:
		for _, p := range v.Pairs {
			entry := append(modelPart(s, 1, f.MapKey, 0, p.Key), modelPart(s, 2, f.Kind, f.Type, p.Value)...)
			b = append(b, modelText(f.Number, entry)...)
		}
		return b
	}
	return modelPart(s, f.Number, f.Kind, f.Type, v)
}

// modelOf is the bytes of a value that is held.
func modelOf(s schema.Schema, message int, v value.Value) []byte {
	var b []byte
	for _, x := range v.Fields {
		for _, f := range s.Messages[message].Fields {
			if f.Number == x.Number {
				b = append(b, modelField(s, f, x.Value)...)
			}
		}
	}
	return append(b, v.Rest...)
}

// isError tells whether an error is just that one.
func isError(got, want error) bool {
	if want == nil || got == nil {
		return want == nil && got == nil
	}
	return errors.Is(got, want)
}

// wantBytes holds what Of and Length answer of a value that is held against its bytes, and the model too.
func wantBytes(t *testing.T, s schema.Schema, message int, v value.Value, want string) {
	t.Helper()
	got, err := Of(s, message, v)
	if err != nil || string(got) != want {
		t.Errorf("Of(%d, %v): % x, %v, want % x", message, v, got, err, want)
	}
	n, err := Length(s, message, v)
	if err != nil || n != len(want) {
		t.Errorf("Length(%d, %v): %d, %v, want %d", message, v, n, err, len(want))
	}
	if model := modelOf(s, message, v); string(model) != want {
		t.Errorf("the model of Of(%d, %v): % x, want % x", message, v, model, want)
	}
}

// wantError holds what Of and Length answer against an error, beside which there is nothing.
func wantError(t *testing.T, s schema.Schema, message int, v value.Value, want error) {
	t.Helper()
	got, err := Of(s, message, v)
	if want == nil || !isError(err, want) || len(got) != 0 {
		t.Errorf("Of(%d, %v): % x, %v, want %v", message, v, got, err, want)
	}
	n, err := Length(s, message, v)
	if !isError(err, want) || n != 0 {
		t.Errorf("Length(%d, %v): %d, %v, want %v", message, v, n, err, want)
	}
}

// wantModel holds what Of and Length answer against the model, or against layer 14's error; and tells whether there is none.
func wantModel(t *testing.T, s schema.Schema, message int, v value.Value) bool {
	t.Helper()
	if err := hold.Check(s, message, v); err != nil {
		wantError(t, s, message, v, err)
		return false
	}
	wantBytes(t, s, message, v, string(modelOf(s, message, v)))
	return true
}

// wantPart holds Part's answer against the model, or against layer 14's error.
func wantPart(t *testing.T, s schema.Schema, f schema.Field, v value.Value) {
	t.Helper()
	got, err := Part(s, f, v)
	var want []byte
	wantErr := hold.Part(s, f, v)
	if wantErr == nil {
		want = modelPart(s, f.Number, f.Kind, f.Type, v)
	}
	if !isError(err, wantErr) || !bytes.Equal(got, want) {
		t.Errorf("Part(%v, %v): % x, %v, want % x, %v", f, v, got, err, want, wantErr)
	}
}

// modelRow is packed numbers.
func modelRow(kind int, list []uint64) []byte {
	var b []byte
	for _, n := range list {
		if modelIsNumber(kind) {
			b = append(b, modelNumber(kind, n)...)
		}
	}
	return b
}
