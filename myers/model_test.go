package myers

import (
	"math"
	"slices"
	"strings"
	"testing"
)

// The models are the chapter's words, told in another way than the program tells them: distances of all that rows end with, numbers that become one letter each (k for kept, d for dropped, p for put).

// modelDistances are the distances of all that two rows end with, by where that begins in both.
func modelDistances(a, b []int) [][]int {
	all := make([][]int, len(a)+1)
	for i := len(a); i >= 0; i-- {
		all[i] = make([]int, len(b)+1)
		for j := len(b); j >= 0; j-- {
			switch {
			case i == len(a) || j == len(b):
				all[i][j] = len(a) - i + len(b) - j
			case a[i] == b[j]:
				all[i][j] = all[i+1][j+1]
			default:
				all[i][j] = 1 + min(all[i+1][j], all[i][j+1])
			}
		}
	}
	return all
}

// modelAlign is what becomes of each number, and the distance, however great.
func modelAlign(a, b []int) (string, int) {
	distances := modelDistances(a, b)
	if far := distances[0][0]; far > 400 {
		return modelFar(a, b), far
	}
	var letters strings.Builder
	i, j := 0, 0
	for i < len(a) || j < len(b) {
		if i < len(a) && j < len(b) && a[i] == b[j] {
			letters.WriteByte('k')
			i, j = i+1, j+1
		} else if i < len(a) && (j == len(b) || distances[i+1][j] <= distances[i][j+1]) {
			letters.WriteByte('d')
			i++
		} else {
			letters.WriteByte('p')
			j++
		}
	}
	return letters.String(), distances[0][0]
}

// modelFar is what becomes of each number of rows that are too far apart.
func modelFar(a, b []int) string {
	begin := 0
	for begin < len(a) && begin < len(b) && slices.Equal(a[:begin+1], b[:begin+1]) {
		begin++
	}
	a, b = a[begin:], b[begin:]
	end := 0
	for end < len(a) && end < len(b) && slices.Equal(a[len(a)-end-1:], b[len(b)-end-1:]) {
		end++
	}
	return strings.Repeat("k", begin) + strings.Repeat("d", len(a)-end) + strings.Repeat("p", len(b)-end) + strings.Repeat("k", end)
}

// runsOf are letters as runs, no two of one kind one behind the other.
func runsOf(letters string) []Run {
	var runs []Run
	for letters != "" {
		rest := strings.TrimLeft(letters, letters[:1])
		runs = append(runs, Run{1 + strings.Index("kdp", letters[:1]), len(letters) - len(rest)})
		letters = rest
	}
	return runs
}

// lettersOf are runs as letters; those that are no runs have none, and whether all are.
func lettersOf(runs []Run) (letters string, all bool) {
	all = true
	for _, r := range runs {
		if r.Kind < 1 || r.Kind > 3 || r.Count < 1 {
			all = false
			continue
		}
		letters += strings.Repeat("kdp"[r.Kind-1:r.Kind], r.Count)
	}
	return letters, all
}

// modelWay tells whether runs are a way: what they keep and drop of the first row, and keep and put of the other one, is all of it, and what they keep of both the same.
func modelWay(runs []Run, a, b []int) bool {
	letters, all := lettersOf(runs)
	ofA, ofB := strings.ReplaceAll(letters, "p", ""), strings.ReplaceAll(letters, "d", "")
	if !all || len(ofA) != len(a) || len(ofB) != len(b) {
		return false
	}
	return slices.Equal(kept(ofA, a), kept(ofB, b))
}

// kept are those numbers of a row whose letter is k.
func kept(letters string, row []int) []int {
	var numbers []int
	for i, n := range row {
		if letters[i] == 'k' {
			numbers = append(numbers, n)
		}
	}
	return numbers
}

// modelTidy is runs in order: what stands between the keeps, sorted.
func modelTidy(runs []Run) []Run {
	letters, _ := lettersOf(runs)
	parts := strings.Split(letters, "k")
	for i, part := range parts {
		sorted := []byte(part)
		slices.Sort(sorted)
		parts[i] = string(sorted)
	}
	return runsOf(strings.Join(parts, "k"))
}

// modelEdits is how many numbers are dropped and put.
func modelEdits(runs []Run) int {
	edits := 0
	for _, r := range runs {
		if (r.Kind == 2 || r.Kind == 3) && r.Count > 0 && r.Count < 1<<20+1 {
			edits += r.Count
		}
	}
	return edits
}

// wantAligned holds all that is told of two rows against the model, and against P19.2.
func wantAligned(t *testing.T, a, b []int) {
	t.Helper()
	letters, far := modelAlign(a, b)
	runs := Align(a, b)
	if want := runsOf(letters); !slices.Equal(runs, want) {
		t.Errorf("Align(%v, %v): %v, want %v", a, b, runs, want)
	}
	if got := Distance(a, b); got != min(far, 401) {
		t.Errorf("Distance(%v, %v): %d, want %d", a, b, got, min(far, 401))
	}
	if got, want := Common(a, b), strings.Count(letters, "k"); got != want {
		t.Errorf("Common(%v, %v): %d, want %d", a, b, got, want)
	}
	if !Way(runs, a, b) || !modelWay(runs, a, b) {
		t.Errorf("Align(%v, %v): %v is no way", a, b, runs)
	}
	if got := Edits(runs); got < far || far <= 400 && got > far {
		t.Errorf("Align(%v, %v): %v of %d edits, and the distance is %d", a, b, runs, got, far)
	}
}

// wantWay holds Way's answer against the model.
func wantWay(t *testing.T, runs []Run, a, b []int) {
	t.Helper()
	if got, want := Way(runs, a, b), modelWay(runs, a, b); got != want {
		t.Errorf("Way(%v, %v, %v): %t, want %t", runs, a, b, got, want)
	}
}

// wantTidy holds Tidy's and Edits' answers against the models, and what is in order already is left so.
func wantTidy(t *testing.T, runs []Run) {
	t.Helper()
	got, want := Tidy(runs), modelTidy(runs)
	if !slices.Equal(got, want) {
		t.Errorf("Tidy(%v): %v, want %v", runs, got, want)
	}
	if again := Tidy(got); !slices.Equal(again, want) {
		t.Errorf("Tidy(%v): %v, and it was in order", got, again)
	}
	if got, want := Edits(runs), modelEdits(runs); got != want {
		t.Errorf("Edits(%v): %d, want %d", runs, got, want)
	}
}

// shortRows are all rows of the numbers up to a length.
func shortRows[T any](of []T, length int) [][]T {
	all := [][]T{nil}
	last := all
	for range length {
		var next [][]T
		for _, row := range last {
			for _, x := range of {
				next = append(next, append(slices.Clone(row), x))
			}
		}
		all = append(all, next...)
		last = next
	}
	return all
}

// someRuns are runs of each kind, and such as are none.
func someRuns(counts ...int) []Run {
	var runs []Run
	for _, count := range counts {
		runs = append(runs, Run{Keep, count}, Run{Drop, count}, Run{Put, count})
	}
	return append(runs, Run{0, 1}, Run{4, 1}, Run{-1, 1}, Run{Keep, 0}, Run{Drop, 0}, Run{Put, -1}, Run{})
}

// wild are runs with kinds and counts of all sizes.
func wild() []Run {
	var runs []Run
	for _, kind := range []int{math.MinInt, -1, 0, Keep, Drop, Put, 4, math.MaxInt} {
		for _, count := range []int{math.MinInt, -1, 0, 1, 2, 1 << 20, 1<<20 + 1, 1 << 32, 1<<32 + 1, 1 << 62, math.MaxInt - 1, math.MaxInt} {
			runs = append(runs, Run{kind, count})
		}
	}
	return runs
}
