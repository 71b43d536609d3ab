package hold

import (
	"errors"
	"slices"
	"testing"
	"unicode/utf8"

	"redline/api"
	"redline/record"
	"redline/schema"
	"redline/tag"
	"redline/value"
)

// The models are the chapter's words, told in another way than the program tells them. Labels, kinds and wire kinds stand as numbers here.

const (
	modelString  = 14
	modelBytes   = 15
	modelEnum    = 16
	modelMessage = 17
)

func modelIsNumber(kind int) bool { return kind >= 1 && kind <= 13 || kind == modelEnum }

// modelNumber tells whether a number is one of a kind, by its bounds.
func modelNumber(kind int, n uint64) bool {
	switch kind {
	case 3, 7, 11, 16:
		return int64(n) >= -2147483648 && int64(n) <= 2147483647
	case 2, 5, 9:
		return n <= 4294967295
	case 13:
		return n <= 1
	case 1, 4, 6, 8, 10, 12:
		return true
	}
	return false
}

// modelWire is a kind's wire kind.
func modelWire(kind int) int {
	switch kind {
	case 1, 10, 12:
		return 1
	case 2, 9, 11:
		return 5
	case 14, 15, 17:
		return 2
	}
	return 0
}

func modelPlain(f schema.Field) bool { return f.Label == 1 && f.Oneof == 0 }

func modelWireOf(f schema.Field) int {
	switch {
	case f.Label == 4, f.Label == 3 && f.Packed:
		return 2
	}
	return modelWire(f.Kind)
}

func modelFind(s schema.Schema, message, number int) *schema.Field {
	if message >= 0 && message < len(s.Messages) {
		for i, f := range s.Messages[message].Fields {
			if f.Number == number {
				return &s.Messages[message].Fields[i]
			}
		}
	}
	return nil
}

func modelKnown(s schema.Schema, message int, t tag.Tag) bool {
	f := modelFind(s, message, t.Number)
	if f == nil {
		return false
	}
	wires := []int{modelWire(f.Kind)}
	switch {
	case f.Label == 4:
		wires = []int{2}
	case f.Label == 3 && modelIsNumber(f.Kind):
		wires = append(wires, 2)
	}
	return slices.Contains(wires, t.Wire)
}

// modelFits tells whether a part fits a kind, in the chapter's first words.
func modelFits(s schema.Schema, kind, of int, v value.Value) bool {
	switch v.Kind {
	case 1:
		return modelNumber(kind, v.Number)
	case 2:
		return kind == modelBytes || kind == modelString && utf8.ValidString(v.Text)
	case 3:
		return kind == modelMessage && modelHeld(s, of, v)
	}
	return false
}

// modelHeld tells whether a value is held, in the chapter's first words: nothing of errors, nor of their order.
func modelHeld(s schema.Schema, message int, v value.Value) bool {
	if v.Kind != 3 || !value.Right(v) {
		return false
	}
	oneofs := map[int]bool{}
	for _, x := range v.Fields {
		f := modelFind(s, message, x.Number)
		if f == nil || oneofs[f.Oneof] || !modelFieldHeld(s, *f, x.Value) {
			return false
		}
		oneofs[f.Oneof] = f.Oneof > 0
	}
	list, err := record.All([]byte(v.Rest))
	return err == nil && !slices.ContainsFunc(list, func(r record.Record) bool { return modelKnown(s, message, r.Tag) })
}

func modelFieldHeld(s schema.Schema, f schema.Field, v value.Value) bool {
	switch f.Label {
	case 3:
		return v.Kind == 4 && !slices.ContainsFunc(v.List, func(x value.Value) bool { return !modelFits(s, f.Kind, f.Type, x) })
	case 4:
		return v.Kind == 5 && !slices.ContainsFunc(v.Pairs, func(p value.Pair) bool {
			return !modelFits(s, f.MapKey, 0, p.Key) || !modelFits(s, f.Kind, f.Type, p.Value)
		})
	}
	zero := v.Kind == 1 && v.Number == 0 || v.Kind == 2 && len(v.Text) == 0
	return modelFits(s, f.Kind, f.Type, v) && !(zero && modelPlain(f))
}

// modelFaults is all that is wrong with a right message's value, in the order in which it is told: the first one is the answer.
func modelFaults(s schema.Schema, message int, v value.Value) []error {
	var faults []error
	count := map[int]int{}
	for _, x := range v.Fields {
		f := modelFind(s, message, x.Number)
		if f == nil {
			faults = append(faults, api.ErrTag)
			continue
		}
		if f.Oneof > 0 {
			count[f.Oneof]++
		}
		faults = append(faults, modelFieldFaults(s, *f, x.Value)...)
	}
	for _, n := range count {
		if n > 1 {
			faults = append(faults, api.ErrDup)
		}
	}
	list, err := record.All([]byte(v.Rest))
	if err != nil {
		faults = append(faults, err)
	}
	for _, r := range list {
		if modelKnown(s, message, r.Tag) {
			faults = append(faults, api.ErrTag)
		}
	}
	return faults
}

func modelFieldFaults(s schema.Schema, f schema.Field, v value.Value) []error {
	var faults []error
	switch {
	case f.Label == 3 && v.Kind == 4:
		for _, x := range v.List {
			faults = append(faults, modelPartFaults(s, f.Kind, f.Type, x)...)
		}
		return faults
	case f.Label == 4 && v.Kind == 5:
		for _, p := range v.Pairs {
			faults = append(faults, modelPartFaults(s, f.MapKey, 0, p.Key)...)
			faults = append(faults, modelPartFaults(s, f.Kind, f.Type, p.Value)...)
		}
		return faults
	case f.Label >= 3, modelPlain(f) && v.Kind == 1 && v.Number == 0, modelPlain(f) && v.Kind == 2 && v.Text == "":
		return []error{api.ErrKind}
	}
	return modelPartFaults(s, f.Kind, f.Type, v)
}

// modelPartKind is the kind of value that a part of a field's kind is.
func modelPartKind(kind int) int {
	switch kind {
	case modelString, modelBytes:
		return 2
	case modelMessage:
		return 3
	}
	return 1
}

func modelPartFaults(s schema.Schema, kind, of int, v value.Value) []error {
	want := modelPartKind(kind)
	switch {
	case v.Kind != want, want == 1 && !modelNumber(kind, v.Number):
		return []error{api.ErrKind}
	case kind == modelString && !utf8.ValidString(v.Text):
		return []error{api.ErrRune}
	case kind == modelMessage:
		return modelFaults(s, of, v)
	}
	return nil
}

func first(faults []error) error {
	if len(faults) == 0 {
		return nil
	}
	return faults[0]
}

// modelCheck is Check's answer in the words of the chapter's section Functions.
func modelCheck(s schema.Schema, message int, v value.Value) error {
	switch {
	case message < 0 || message >= len(s.Messages):
		return api.ErrNone
	case v.Kind != 3 || !value.Right(v):
		return api.ErrForm
	}
	return first(modelFaults(s, message, v))
}

// modelPart is Part's answer.
func modelPart(s schema.Schema, f schema.Field, v value.Value) error {
	if f.Kind == modelMessage && v.Kind == 3 && !value.Right(v) {
		return api.ErrForm
	}
	return first(modelPartFaults(s, f.Kind, f.Type, v))
}

// isError tells whether an error is just that one.
func isError(got, want error) bool {
	if want == nil || got == nil {
		return want == nil && got == nil
	}
	return errors.Is(got, want)
}

// wantCheck holds Check's answer against an error, and against both models.
func wantCheck(t *testing.T, s schema.Schema, message int, v value.Value, want error) {
	t.Helper()
	if got := Check(s, message, v); !isError(got, want) {
		t.Errorf("Check(%d, %v): %v, want %v", message, v, got, want)
	}
	if model := modelCheck(s, message, v); !isError(model, want) {
		t.Errorf("the model of Check(%d, %v): %v, want %v", message, v, model, want)
	}
	if message >= 0 && message < len(s.Messages) && modelHeld(s, message, v) != (want == nil) {
		t.Errorf("the model of what is held: %d, %v, want %v", message, v, want)
	}
}

// wantPart holds Part's answer against an error, and against both models.
func wantPart(t *testing.T, s schema.Schema, f schema.Field, v value.Value, want error) {
	t.Helper()
	if got := Part(s, f, v); !isError(got, want) {
		t.Errorf("Part(%v, %v): %v, want %v", f, v, got, want)
	}
	if model := modelPart(s, f, v); !isError(model, want) {
		t.Errorf("the model of Part(%v, %v): %v, want %v", f, v, model, want)
	}
	if modelFits(s, f.Kind, f.Type, v) != (want == nil) {
		t.Errorf("the model of what fits: %v, %v, want %v", f, v, want)
	}
}

// wantField holds the calls that are asked of a field, or of a tag, against the models.
func wantFields(t *testing.T, s schema.Schema, message int) {
	t.Helper()
	for _, f := range s.Messages[message].Fields {
		if Plain(f) != modelPlain(f) || Wire(f) != modelWireOf(f) {
			t.Errorf("%v: Plain %v, Wire %d, want %v, %d", f, Plain(f), Wire(f), modelPlain(f), modelWireOf(f))
		}
		for _, number := range []int{f.Number, f.Number + 1, -f.Number} {
			for wire := -2; wire <= 9; wire++ {
				head := tag.Tag{Number: number, Wire: wire}
				if got, want := Known(s, message, head), modelKnown(s, message, head); got != want {
					t.Errorf("Known(%d, %v) of %v: %v, want %v", message, head, f, got, want)
				}
			}
		}
	}
}
