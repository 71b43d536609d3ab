package code

import (
	"errors"
	"fmt"
	"slices"
	"testing"

	"redline/api"
	"redline/encode"
	"redline/hold"
	"redline/kinds"
	"redline/schema"
	"redline/value"
)

// The models are the chapter's words, told in another way than the program tells them: keys through messages of schemas of their own, rows of texts without maps.

const head = "syntax = 'proto3'; "

func compiled(t *testing.T, text string) schema.Schema {
	t.Helper()
	s, err := schema.Of(text)
	if err != nil {
		t.Fatalf("%s: %v, %v", text, err, errors.Unwrap(err))
	}
	return s
}

// isError tells whether an error is just that one.
func isError(got, want error) bool {
	if want == nil || got == nil {
		return want == nil && got == nil
	}
	return errors.Is(got, want)
}

// modelKey is the key of an element that its field's message holds: the bytes of a message that has nothing but an Optional field, of the number and the type of the field of the key.
func modelKey(t *testing.T, s schema.Schema, f schema.Field, v value.Value) string {
	t.Helper()
	var key schema.Field
	for _, x := range s.Messages[f.Type].Fields {
		if x.Number == f.Key {
			key = x
		}
	}
	name, x := kinds.Name(key.Kind), value.Num(0)
	switch key.Kind {
	case kinds.String:
		x = value.Str("")
	case kinds.Enum:
		name = "E"
	}
	for _, field := range v.Fields {
		if field.Number == f.Key {
			x = field.Value
		}
	}
	alone := compiled(t, fmt.Sprintf("%smessage X { optional %s x = %d; } enum E { Z = 0; }", head, name, key.Number))
	b, err := encode.Of(alone, 0, value.With(value.Value{Kind: value.Message}, key.Number, x))
	if err != nil {
		t.Fatalf("the model of Key(%v, %v): %v", f, v, err)
	}
	return string(b)
}

// wantCode holds Code's answer against layer 15's Part.
func wantCode(t *testing.T, s schema.Schema, f schema.Field, v value.Value) {
	t.Helper()
	want, wantErr := encode.Part(s, f, v)
	if got, err := Code(s, f, v); got != string(want) || !isError(err, wantErr) {
		t.Errorf("Code(%v, %v): % x, %v, want % x, %v", f, v, got, err, want, wantErr)
	}
}

// wantKey holds Key's answer, of a field that tells a key, against the model, or layer 14's error.
func wantKey(t *testing.T, s schema.Schema, f schema.Field, v value.Value) {
	t.Helper()
	want, wantErr := "", hold.Part(s, f, v)
	if wantErr == nil {
		want = modelKey(t, s, f, v)
	}
	if got, err := Key(s, f, v); got != want || !isError(err, wantErr) {
		t.Errorf("Key(%v, %v): % x, %v, want % x, %v", f, v, got, err, want, wantErr)
	}
}

// wantAll holds what Codes, or Keys, answers of a list against what Code, or Key, answers of each of its elements.
func wantAll(t *testing.T, s schema.Schema, f schema.Field, list []value.Value) {
	t.Helper()
	for _, x := range []struct {
		name string
		all  func(s schema.Schema, f schema.Field, list []value.Value) ([]string, error)
		one  func(s schema.Schema, f schema.Field, v value.Value) (string, error)
	}{{"Codes", Codes, Code}, {"Keys", Keys, Key}} {
		var want []string
		var wantErr error
		for _, v := range slices.Backward(list) {
			text, err := x.one(s, f, v)
			if err != nil {
				wantErr = err // the last one that is met from the end is the first one
			}
			want = append([]string{text}, want...)
		}
		if x.name == "Keys" && f.Key == 0 {
			wantErr = api.ErrNone
		}
		if wantErr != nil {
			want = nil
		}
		got, err := x.all(s, f, list)
		if !slices.Equal(got, want) || !isError(err, wantErr) {
			t.Errorf("%s(%v, %v): %q, %v, want %q, %v", x.name, f, list, got, err, want, wantErr)
		}
	}
}

// modelUnlike tells whether no two texts are the same.
func modelUnlike(list []string) bool {
	for i := range list {
		for j := range i {
			if list[i] == list[j] {
				return false
			}
		}
	}
	return true
}

// modelNumber is texts as numbers: of each one, how many unlike ones there are ahead of the first that is like it.
func modelNumber(lists ...[]string) [][]int {
	row := slices.Concat(lists...)
	var all [][]int
	for _, list := range lists {
		var numbers []int
		for _, text := range list {
			ahead := slices.Clone(row[:slices.Index(row, text)])
			slices.Sort(ahead)
			numbers = append(numbers, len(slices.Compact(ahead)))
		}
		all = append(all, numbers)
	}
	return all
}

// wantNumber holds Number's answer against the numbers that are wanted.
func wantNumber(t *testing.T, want [][]int, lists ...[]string) {
	t.Helper()
	if got := Number(lists...); !slices.EqualFunc(got, want, slices.Equal[[]int]) {
		t.Errorf("Number(%q): %v, want %v", lists, got, want)
	}
}
