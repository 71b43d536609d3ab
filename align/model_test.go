package align

import (
	"errors"
	"slices"
	"strings"
	"testing"

	"redline/kinds"
	"redline/schema"
	"redline/value"
)

// The models are the chapter's words, told in another way than the program tells them: elements and keys are held against one another as values, without codes and numbers, and what becomes of each element is a letter (k for kept, d for dropped, p for put).

// compiled is the schema of a text.
func compiled(t *testing.T, text string) schema.Schema {
	t.Helper()
	s, err := schema.Of(text)
	if err != nil {
		t.Fatalf("%s: %v, %v", text, err, errors.Unwrap(err))
	}
	return s
}

// isError tells whether an error is just that one.
func isError(got, want error) bool {
	if want == nil || got == nil {
		return want == nil && got == nil
	}
	return errors.Is(got, want)
}

// pairs tells which elements of two lists are fellows, or the same.
type pairs [][]bool

// pairsOf holds each one of a against each one of b.
func pairsOf[T any](a, b []T, is func(x, y T) bool) pairs {
	all := make(pairs, len(a))
	for i, x := range a {
		for _, y := range b {
			all[i] = append(all[i], is(x, y))
		}
	}
	return all
}

// modelDistances are the distances of all that two lists end with, by where that begins in both.
func modelDistances(fellows pairs, a, b int) [][]int {
	all := make([][]int, a+1)
	for i := a; i >= 0; i-- {
		all[i] = make([]int, b+1)
		for j := b; j >= 0; j-- {
			switch {
			case i == a || j == b:
				all[i][j] = a - i + b - j
			case fellows[i][j]:
				all[i][j] = all[i+1][j+1]
			default:
				all[i][j] = 1 + min(all[i+1][j], all[i][j+1])
			}
		}
	}
	return all
}

// modelLetters is what becomes of each element.
func modelLetters(fellows pairs, a, b int) string {
	distances := modelDistances(fellows, a, b)
	if distances[0][0] > 400 {
		return modelFar(fellows, a, b)
	}
	var letters strings.Builder
	i, j := 0, 0
	for i < a || j < b {
		if i < a && j < b && fellows[i][j] {
			letters.WriteByte('k')
			i, j = i+1, j+1
		} else if i < a && (j == b || distances[i+1][j] <= distances[i][j+1]) {
			letters.WriteByte('d')
			i++
		} else {
			letters.WriteByte('p')
			j++
		}
	}
	return letters.String()
}

// modelFar is what becomes of each element of lists that are too far apart.
func modelFar(fellows pairs, a, b int) string {
	begin, end := 0, 0
	for begin < min(a, b) && fellows[begin][begin] {
		begin++
	}
	for end < min(a, b)-begin && fellows[a-1-end][b-1-end] {
		end++
	}
	return strings.Repeat("k", begin) + strings.Repeat("d", a-begin-end) + strings.Repeat("p", b-begin-end) + strings.Repeat("k", end)
}

// tidied is letters of which those between two of what is kept are in order.
func tidied(letters string) string {
	parts := strings.Split(letters, "k")
	for i, part := range parts {
		sorted := []byte(part)
		slices.Sort(sorted)
		parts[i] = string(sorted)
	}
	return strings.Join(parts, "k")
}

// modelSteps is the steps between two lists, by which of their elements are fellows, and which are the same.
func modelSteps(fellows, same pairs, a, b int) []Step {
	var steps []Step
	letters := tidied(modelLetters(fellows, a, b))
	for at := range letters {
		ahead := letters[:at]
		kept := strings.Count(ahead, "k")
		step := Step{A: kept + strings.Count(ahead, "d"), B: kept + strings.Count(ahead, "p")}
		switch letters[at] {
		case 'k':
			step.Kind = 2
			if same[step.A][step.B] {
				step.Kind = 1
			}
		case 'd':
			step.Kind = 3
		case 'p':
			step.Kind = 4
		}
		steps = append(steps, step)
	}
	return steps
}

// modelTexts is the steps of texts.
func modelTexts(a, b []string) []Step {
	same := pairsOf(a, b, func(x, y string) bool { return x == y })
	return modelSteps(same, same, len(a), len(b))
}

// keyOf is what an element has in the field of the key: 0 or an empty text, if it isn't there.
func keyOf(s schema.Schema, f schema.Field, v value.Value) value.Value {
	for _, x := range v.Fields {
		if x.Number == f.Key {
			return x.Value
		}
	}
	for _, key := range s.Messages[f.Type].Fields {
		if key.Number == f.Key && key.Kind == kinds.String {
			return value.Str("")
		}
	}
	return value.Num(0)
}

// modelKeyed tells whether two lists of elements that fit the field are aligned by keys.
func modelKeyed(s schema.Schema, f schema.Field, a, b []value.Value) bool {
	if f.Key == 0 {
		return false
	}
	for _, list := range [][]value.Value{a, b} {
		for i := range list {
			for j := range i {
				if value.Same(keyOf(s, f, list[i]), keyOf(s, f, list[j])) {
					return false
				}
			}
		}
	}
	return true
}

// modelLists is the steps between two lists of elements that fit the field.
func modelLists(s schema.Schema, f schema.Field, a, b []value.Value) []Step {
	same := pairsOf(a, b, value.Same)
	fellows := same
	if modelKeyed(s, f, a, b) {
		fellows = pairsOf(a, b, func(x, y value.Value) bool { return value.Same(keyOf(s, f, x), keyOf(s, f, y)) })
	}
	return modelSteps(fellows, same, len(a), len(b))
}

// wantPlaces holds the places of steps against P20.2, and against what the chapter says of the place in the other list.
func wantPlaces(t *testing.T, steps []Step, a, b int) {
	t.Helper()
	ofA, ofB := 0, 0
	for _, step := range steps {
		if step.A != ofA || step.B != ofB {
			t.Fatalf("%v: the places are %d and %d, want %d and %d", steps, step.A, step.B, ofA, ofB)
		}
		if step.Kind != Put {
			ofA++
		}
		if step.Kind != Drop {
			ofB++
		}
	}
	if ofA != a || ofB != b {
		t.Fatalf("%v: %d of the one and %d of the other, want %d and %d", steps, ofA, ofB, a, b)
	}
}

// wantTexts holds the steps of texts against the model, and against P20.2.
func wantTexts(t *testing.T, a, b []string) {
	t.Helper()
	steps := Texts(a, b)
	if want := modelTexts(a, b); !slices.Equal(steps, want) {
		t.Errorf("Texts(%q, %q): %v, want %v", a, b, steps, want)
	}
	wantPlaces(t, steps, len(a), len(b))
}

// wantLists holds all that is told of two lists of elements that fit the field against the model, and against P20.2; and answers whether they are aligned by keys.
func wantLists(t *testing.T, s schema.Schema, f schema.Field, a, b []value.Value) bool {
	t.Helper()
	steps, err := Lists(s, f, a, b)
	if want := modelLists(s, f, a, b); !slices.Equal(steps, want) || err != nil {
		t.Errorf("Lists(%v, %v, %v): %v, %v, want %v", f, a, b, steps, err, want)
	}
	wantPlaces(t, steps, len(a), len(b))
	keyed, err := Keyed(s, f, a, b)
	if want := modelKeyed(s, f, a, b); keyed != want || err != nil {
		t.Errorf("Keyed(%v, %v, %v): %t, %v, want %t", f, a, b, keyed, err, want)
	}
	if got, want := Kept(steps), modelKept(steps); got != want {
		t.Errorf("Kept(%v): %d, want %d", steps, got, want)
	}
	return keyed
}

// modelKept is how many are kept or changed.
func modelKept(steps []Step) int {
	left := slices.DeleteFunc(slices.Clone(steps), func(step Step) bool { return step.Kind < 1 || step.Kind > 2 })
	return len(left)
}
