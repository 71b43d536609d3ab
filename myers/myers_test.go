package myers

import (
	"math"
	"math/rand/v2"
	"slices"
	"testing"
	"time"
)

// row is the numbers from one to another one, without that.
func row(from, to int) []int {
	var numbers []int
	for n := from; n < to; n++ {
		numbers = append(numbers, n)
	}
	return numbers
}

// P19.1: the kinds, as they are told.
func TestKinds(t *testing.T) {
	if Keep != 1 || Drop != 2 || Put != 3 {
		t.Error(Keep, Drop, Put)
	}
}

// P19.1: runs, distances and common numbers, written out.
func TestAlignWrittenOut(t *testing.T) {
	for _, x := range []struct {
		a, b []int
		want []Run
		far  int
		kept int
	}{
		{[]int{1, 2, 3}, []int{1, 3, 4}, []Run{{Keep, 1}, {Drop, 1}, {Keep, 1}, {Put, 1}}, 2, 2}, // the chapter's example
		{nil, nil, nil, 0, 0}, {[]int{}, nil, nil, 0, 0}, {nil, []int{}, nil, 0, 0},
		{[]int{7}, nil, []Run{{Drop, 1}}, 1, 0}, {nil, []int{7, 7}, []Run{{Put, 2}}, 2, 0}, {[]int{7}, []int{7}, []Run{{Keep, 1}}, 0, 1},
		{[]int{1}, []int{2}, []Run{{Drop, 1}, {Put, 1}}, 2, 0},                                                              // one is as good as the other: dropped
		{[]int{1, 2}, []int{2, 1}, []Run{{Drop, 1}, {Keep, 1}, {Put, 1}}, 2, 1},                                             // here too
		{[]int{1, 2}, []int{3, 1, 2}, []Run{{Put, 1}, {Keep, 2}}, 1, 2},                                                     // putting is better
		{[]int{1, 2}, []int{3, 4, 1, 2}, []Run{{Put, 2}, {Keep, 2}}, 2, 2},                                                  // by more than one
		{[]int{1, 1}, []int{1}, []Run{{Keep, 1}, {Drop, 1}}, 1, 1},                                                          // kept where it can be
		{[]int{1}, []int{1, 1}, []Run{{Keep, 1}, {Put, 1}}, 1, 1},                                                           // here too
		{[]int{5, 1, 1}, []int{1}, []Run{{Drop, 1}, {Keep, 1}, {Drop, 1}}, 2, 1},                                            // the first of like ones
		{[]int{1}, []int{5, 1, 1}, []Run{{Put, 1}, {Keep, 1}, {Put, 1}}, 2, 1},                                              // of b's, too
		{[]int{1, 2}, []int{1, 1, 2}, []Run{{Keep, 1}, {Put, 1}, {Keep, 1}}, 1, 2},                                          // the ends don't go first
		{[]int{1, 2, 3, 4}, []int{5, 2, 6, 4}, []Run{{Drop, 1}, {Put, 1}, {Keep, 1}, {Drop, 1}, {Put, 1}, {Keep, 1}}, 4, 2}, // parts by turns
		{[]int{1, 2, 3, 1}, []int{4, 3, 2, 4}, []Run{{Drop, 2}, {Put, 1}, {Keep, 1}, {Drop, 1}, {Put, 2}}, 6, 1},
		{[]int{1, 2, 1, 2, 3, 3, 1}, []int{3, 2, 1, 2, 1, 3}, []Run{{Drop, 1}, {Put, 1}, {Keep, 3}, {Drop, 2}, {Keep, 1}, {Put, 1}}, 5, 4},
		{[]int{math.MinInt, -1, 0, math.MaxInt}, []int{math.MaxInt, 0, -1, math.MinInt}, []Run{{Drop, 3}, {Keep, 1}, {Put, 3}}, 6, 1},
	} {
		wantAligned(t, x.a, x.b)
		if got := Align(x.a, x.b); !slices.Equal(got, x.want) {
			t.Errorf("Align(%v, %v): %v, want %v", x.a, x.b, got, x.want)
		}
		if far, kept := Distance(x.a, x.b), Common(x.a, x.b); far != x.far || kept != x.kept {
			t.Errorf("%v, %v: %d apart, %d kept, want %d, %d", x.a, x.b, far, kept, x.far, x.kept)
		}
	}
}

// P19.1, P19.2: all short rows, of three numbers and of two.
func TestAlignShort(t *testing.T) {
	for _, rows := range [][][]int{shortRows([]int{0, math.MaxInt, math.MinInt}, 4), shortRows([]int{1, -1}, 6)} {
		for _, a := range rows {
			for _, b := range rows {
				wantAligned(t, a, b)
			}
		}
		if t.Failed() {
			t.FailNow()
		}
	}
}

// spoiled is a row of which some numbers are changed, dropped, put, or stand elsewhere.
func spoiled(m *rand.Rand, row []int, edits, of int) []int {
	row = slices.Clone(row)
	for range edits {
		at := m.IntN(len(row) + 1)
		switch {
		case m.IntN(2) == 0 || at == len(row):
			row = slices.Insert(row, at, m.IntN(of))
		case m.IntN(2) == 0:
			row = slices.Delete(row, at, at+1)
		default:
			row[at] = row[m.IntN(len(row))]
		}
	}
	return row
}

// P19.1, P19.2: rows by chance, of few numbers and of many, some that come of one another.
func TestAlignByChance(t *testing.T) {
	for seed := range uint64(3000) {
		m := rand.New(rand.NewPCG(19, seed))
		of := []int{1, 2, 3, 10, 1000}[m.IntN(5)]
		a := spoiled(m, nil, m.IntN(120), of)
		b := spoiled(m, a, m.IntN(60), of)
		if m.IntN(4) == 0 {
			b = spoiled(m, nil, m.IntN(120), of)
		}
		wantAligned(t, a, b)
		if t.Failed() {
			t.Fatal(seed)
		}
	}
}

// P19.1, P19.2: distances at both sides of the greatest that is told, of rows with nothing in common, with both ends in common, and with some between.
func TestAlignAtTheBound(t *testing.T) {
	near, far := false, false
	for _, dropped := range []int{0, 1, 2, 199, 200, 201, 398, 399, 400, 401, 402, 450} {
		for edits := 396; edits <= 405; edits++ {
			if dropped > edits {
				continue
			}
			a, b := row(0, dropped), row(1000, 1000+edits-dropped)
			for _, ends := range []int{0, 1, 3} {
				both := row(2000, 2000+ends)
				wantAligned(t, slices.Concat(both, a, both), slices.Concat(both, b, both))
				wantAligned(t, slices.Concat(both, a), slices.Concat(both, b))
				wantAligned(t, slices.Concat(a, both), slices.Concat(b, both))
				wantAligned(t, slices.Concat(both, a, both, a, both), slices.Concat(both, b, both, a, both))
				wantAligned(t, slices.Concat(both, a[:len(a)/2], both, a[len(a)/2:]), slices.Concat(both, b[:len(b)/3], both, b[len(b)/3:]))
			}
			near, far = near || Distance(a, b) == 400, far || Distance(a, b) == 401
		}
		if t.Failed() {
			t.FailNow()
		}
	}
	if !near || !far {
		t.Error("a side of the bound has no rows")
	}
}

// P19.1: the bound, written out: behind it nothing between the ends is kept, and the beginnings go first.
func TestFarWrittenOut(t *testing.T) {
	ones := slices.Repeat([]int{1}, 1000)
	for _, x := range []struct {
		name string
		a, b []int
		want []Run
		far  int
	}{
		{"all unlike, just near", row(0, 200), row(200, 400), []Run{{Drop, 200}, {Put, 200}}, 400},
		{"all unlike, just far", row(0, 200), row(200, 401), []Run{{Drop, 200}, {Put, 201}}, 401},
		{"all dropped", row(0, 500), nil, []Run{{Drop, 500}}, 401},
		{"all put", nil, row(0, 500), []Run{{Put, 500}}, 401},
		{"like ones, just near", ones, ones[:600], []Run{{Keep, 600}, {Drop, 400}}, 400},
		{"like ones, just far", ones, ones[:599], []Run{{Keep, 599}, {Drop, 401}}, 401},
		{"like ones, put", ones[:100], ones, []Run{{Keep, 100}, {Put, 900}}, 401},
		{"one in common between, just near", slices.Concat(row(0, 100), row(777, 778), row(100, 200)), slices.Concat(row(200, 300), row(777, 778), row(300, 400)), []Run{{Drop, 100}, {Put, 100}, {Keep, 1}, {Drop, 100}, {Put, 100}}, 400},
		{"one in common between, just far", slices.Concat(row(0, 100), row(777, 778), row(100, 200)), slices.Concat(row(200, 300), row(777, 778), row(300, 401)), []Run{{Drop, 201}, {Put, 202}}, 401},
		{"some in common between, far", slices.Concat(row(2, 300), ones[:50], row(300, 302)), slices.Concat(row(302, 500), ones[:50], row(500, 502)), []Run{{Drop, 350}, {Put, 250}}, 401},
		{"both ends in common, and some between", slices.Concat(row(-3, 0), row(2, 300), ones, row(300, 302), row(-9, -5)), slices.Concat(row(-3, 0), row(302, 500), ones, row(500, 502), row(-9, -5)), []Run{{Keep, 3}, {Drop, 1300}, {Put, 1200}, {Keep, 4}}, 401},
		{"ends that would be kept twice", slices.Concat(ones[:3], row(2, 500), ones[:3]), ones[:4], []Run{{Keep, 3}, {Drop, 500}, {Keep, 1}}, 401},
		{"a row that is all beginning", ones[:5], slices.Concat(ones[:5], row(2, 500), ones[:5]), []Run{{Keep, 5}, {Put, 503}}, 401},
	} {
		wantAligned(t, x.a, x.b)
		if got := Align(x.a, x.b); !slices.Equal(got, x.want) {
			t.Errorf("%s: %v, want %v", x.name, got, x.want)
		}
		if got := Distance(x.a, x.b); got != x.far {
			t.Errorf("%s: %d apart, want %d", x.name, got, x.far)
		}
	}
}

// P19.1: whether runs are a way, of all short ones, right and wrong, and all short rows.
func TestWayShort(t *testing.T) {
	rows := shortRows([]int{0, 1}, 3)
	for _, runs := range shortRows(someRuns(1, 2), 3) {
		for _, a := range rows {
			for _, b := range rows {
				wantWay(t, runs, a, b)
			}
		}
		if t.Failed() {
			t.FailNow()
		}
	}
}

// P19.1: whether runs are a way, written out.
func TestWayWrittenOut(t *testing.T) {
	a, b := []int{1, 2, 3}, []int{1, 3, 4}
	for _, x := range []struct {
		runs []Run
		want bool
	}{
		{[]Run{{Keep, 1}, {Drop, 1}, {Keep, 1}, {Put, 1}}, true}, {[]Run{{Drop, 3}, {Put, 3}}, true}, {[]Run{{Put, 3}, {Drop, 3}}, true}, {[]Run{{Put, 1}, {Drop, 1}, {Put, 1}, {Drop, 2}, {Put, 1}}, true},
		{[]Run{{Drop, 1}, {Drop, 1}, {Put, 1}, {Keep, 1}, {Put, 1}}, true}, // two of one kind
		{nil, false}, {[]Run{{Keep, 3}}, false}, {[]Run{{Keep, 1}, {Drop, 1}, {Keep, 1}}, false}, {[]Run{{Keep, 1}, {Drop, 1}, {Put, 1}, {Keep, 1}}, false},
		{[]Run{{Drop, 3}}, false}, {[]Run{{Put, 3}}, false}, {[]Run{{Drop, 2}, {Put, 3}}, false}, {[]Run{{Drop, 3}, {Put, 2}}, false}, {[]Run{{Drop, 4}, {Put, 3}}, false}, {[]Run{{Drop, 3}, {Put, 4}}, false},
		{[]Run{{Drop, 3}, {Put, 3}, {Keep, 1}}, false}, {[]Run{{Keep, 1}, {Keep, 1}, {Drop, 1}, {Put, 1}}, false},
		{[]Run{{Drop, 3}, {Put, 3}, {Keep, 0}}, false}, {[]Run{{Drop, 3}, {Drop, 0}, {Put, 3}}, false}, {[]Run{{Drop, 3}, {Put, 4}, {Put, -1}}, false}, {[]Run{{Drop, 3}, {Put, 3}, {4, 1}}, false}, {[]Run{{0, 0}, {Drop, 3}, {Put, 3}}, false}, // not runs
		{[]Run{{Drop, math.MaxInt}, {Drop, math.MaxInt}, {Drop, 5}, {Put, 3}}, false}, {[]Run{{Keep, math.MaxInt}}, false}, {[]Run{{Put, math.MaxInt}, {Drop, 3}}, false}, // 5 more than two of the greatest are 3, if they wrap round
		{[]Run{{Drop, 3}, {Put, 3}, {Drop, math.MinInt}, {Drop, math.MinInt}}, false},
	} {
		if got := Way(x.runs, a, b); got != x.want {
			t.Errorf("Way(%v, %v, %v): %t, want %t", x.runs, a, b, got, x.want)
		}
	}
	if !Way(nil, nil, nil) || !Way([]Run{}, []int{}, nil) || Way([]Run{{Keep, 1}}, nil, nil) || Way(nil, a, nil) || Way(nil, nil, b) || Way(nil, a, a) {
		t.Error("runs, or rows, without anything in them")
	}
}

// P19.1: whether runs are a way, of such as are one, and such as are spoiled in one place, or are those of rows that are.
func TestWayByChance(t *testing.T) {
	ways := [2]int{}
	for seed := range uint64(3000) {
		m := rand.New(rand.NewPCG(190, seed))
		a := spoiled(m, nil, m.IntN(30), 4)
		b := spoiled(m, a, m.IntN(10), 4)
		runs := Align(a, b)
		wantWay(t, runs, a, b)
		wantWay(t, Tidy(runs), a, b)
		wantWay(t, runs, b, a)
		wantWay(t, runs, spoiled(m, a, 1, 4), b)
		wantWay(t, runs, a, spoiled(m, b, 1, 4))
		if len(runs) > 0 {
			at := m.IntN(len(runs))
			wantWay(t, slices.Delete(slices.Clone(runs), at, at+1), a, b)
			wantWay(t, slices.Insert(slices.Clone(runs), at, someRuns(1)[m.IntN(10)]), a, b)
			runs[at].Count += m.IntN(3) - 1
			wantWay(t, runs, a, b)
			runs[at].Kind = m.IntN(5)
			wantWay(t, runs, a, b)
		}
		if Way(runs, a, b) {
			ways[0]++
		} else {
			ways[1]++
		}
		if t.Failed() {
			t.Fatal(seed)
		}
	}
	if min(ways[0], ways[1]) < 100 {
		t.Error("few ways, or few that are none", ways)
	}
}

// P19.2: of all ways of short rows none has fewer edits.
func TestNoFewerEdits(t *testing.T) {
	steps := shortRows([]Run{{Keep, 1}, {Drop, 1}, {Put, 1}}, 6)
	for _, a := range shortRows([]int{0, 1}, 3) {
		for _, b := range shortRows([]int{0, 1}, 3) {
			least := len(a) + len(b)
			for _, runs := range steps {
				if Way(runs, a, b) {
					least = min(least, Edits(runs))
				}
			}
			if runs := Align(a, b); !Way(runs, a, b) || Edits(runs) != least || Distance(a, b) != least {
				t.Errorf("Align(%v, %v): %v, and there is a way of %d edits", a, b, runs, least)
			}
		}
	}
}

// P19.2: a row is aligned with itself by keeping all.
func TestAlignItself(t *testing.T) {
	for _, a := range append(shortRows([]int{0, 1, -1}, 5), row(0, 5000), slices.Repeat([]int{7}, 5000)) {
		runs := Align(a, slices.Clone(a))
		if len(a) == 0 && len(runs) > 0 || len(a) > 0 && !slices.Equal(runs, []Run{{Keep, len(a)}}) {
			t.Errorf("%d numbers are aligned with themselves by %v", len(a), runs)
		}
		if !Way(runs, a, a) || Edits(runs) != 0 || Distance(a, a) != 0 || Common(a, a) != len(a) {
			t.Errorf("%d numbers aren't as they are", len(a))
		}
	}
}

// P19.1: how many numbers are dropped and put, written out: of the least and the greatest count, and beyond.
func TestEdits(t *testing.T) {
	for _, x := range []struct {
		runs []Run
		want int
	}{
		{nil, 0}, {[]Run{}, 0}, {[]Run{{Keep, 5}}, 0}, {[]Run{{Drop, 5}}, 5}, {[]Run{{Put, 5}}, 5}, {[]Run{{Put, 1}, {Put, 2}, {Keep, 10}, {Drop, 4}, {Put, 8}}, 15},
		{[]Run{{Drop, 0}, {Put, 0}, {Drop, -1}, {Put, -7}, {Drop, 1}}, 1}, {[]Run{{0, 1}, {4, 2}, {-1, 4}, {-2, 8}, {Put, 16}}, 16},
		{[]Run{{Drop, 1 << 20}}, 1 << 20}, {[]Run{{Put, 1 << 20}, {Drop, 1 << 20}, {Put, 1}}, 1<<21 + 1}, {[]Run{{Drop, 1<<20 + 1}, {Put, 1<<20 + 1}, {Put, 3}}, 3},
		{[]Run{{Drop, math.MaxInt}, {Put, math.MaxInt}, {Drop, math.MinInt}, {Put, 1<<32 + 1}, {Drop, 2}}, 2},
		{slices.Repeat([]Run{{Drop, 1 << 20}, {Put, 1 << 20}}, 5000), 10000 << 20},
	} {
		if got := Edits(x.runs); got != x.want {
			t.Errorf("Edits(%v): %d, want %d", x.runs, got, x.want)
		}
	}
	if got, want := Edits(wild()), modelEdits(wild()); got != want || got != 2*(1+2+1<<20) {
		t.Errorf("Edits of wild runs: %d, want %d", got, want)
	}
}

// P19.1: runs in order, written out.
func TestTidyWrittenOut(t *testing.T) {
	for _, x := range []struct{ runs, want []Run }{
		{nil, nil}, {[]Run{}, nil}, {[]Run{{Keep, 2}}, []Run{{Keep, 2}}}, {[]Run{{Put, 1}, {Drop, 2}}, []Run{{Drop, 2}, {Put, 1}}},
		{[]Run{{Put, 1}, {Drop, 2}, {Put, 4}, {Drop, 8}}, []Run{{Drop, 10}, {Put, 5}}},
		{[]Run{{Put, 1}, {Put, 2}, {Keep, 1}, {Put, 4}, {Drop, 8}, {Keep, 1}, {Drop, 16}, {Drop, 32}}, []Run{{Put, 3}, {Keep, 1}, {Drop, 8}, {Put, 4}, {Keep, 1}, {Drop, 48}}},
		{[]Run{{Keep, 1}, {Keep, 2}, {Drop, 1}, {Keep, 4}, {Keep, 8}}, []Run{{Keep, 3}, {Drop, 1}, {Keep, 12}}},
		{[]Run{{Keep, 1}, {Drop, 0}, {Keep, 2}, {4, 1}, {Keep, 4}, {0, 7}, {Put, -1}, {Keep, 8}}, []Run{{Keep, 15}}},                       // what is no run parts nothing
		{[]Run{{Put, 1}, {Keep, 0}, {Drop, 1}, {Keep, -1}, {Put, 1}, {Drop, -5}, {-1, 1}, {Drop, 2}}, []Run{{Drop, 3}, {Put, 2}}},          // here too
		{[]Run{{0, 0}, {4, 4}, {Keep, 0}, {Drop, math.MinInt}, {Put, -1}, {math.MaxInt, 1}}, nil},                                          // nothing is left
		{[]Run{{Put, 1 << 20}, {Drop, 1 << 20}, {Put, 1 << 20}, {Keep, 1 << 20}}, []Run{{Drop, 1 << 20}, {Put, 1 << 21}, {Keep, 1 << 20}}}, // great ones
	} {
		if got := Tidy(x.runs); !slices.Equal(got, x.want) {
			t.Errorf("Tidy(%v): %v, want %v", x.runs, got, x.want)
		}
	}
}

// P19.1: runs in order, of all short ones, and by chance.
func TestTidy(t *testing.T) {
	for _, runs := range shortRows(someRuns(1, 2), 4) {
		wantTidy(t, runs)
	}
	for seed := range uint64(2000) {
		m := rand.New(rand.NewPCG(1900, seed))
		var runs []Run
		for range m.IntN(40) {
			runs = append(runs, Run{m.IntN(6) - 1, m.IntN(12) - 1})
		}
		wantTidy(t, runs)
		if t.Failed() {
			t.Fatal(seed)
		}
	}
}

// P19.1: nothing panics, of whatever runs.
func TestNoPanic(t *testing.T) {
	for _, x := range wild() {
		for _, y := range wild() {
			for _, numbers := range [][]int{nil, {1}, {1, 1, 1}} {
				Way([]Run{x, y}, numbers, numbers)
				Way([]Run{x, y}, nil, numbers)
			}
			Edits([]Run{x, y})
			Tidy([]Run{x, y, x, x})
		}
	}
}

// P19.1: nothing that is given is changed, nor the room behind it, and what is answered is apart from it.
func TestApart(t *testing.T) {
	room := []int{1, 2, 3, 4, 5, 6, 7, 8}
	a, b := room[:4], room[2:6]
	runRoom := []Run{{Keep, 1}, {Keep, 2}, {Put, 1}, {Drop, 1}, {Put, 1}, {Keep, 1}, {Put, 9}}
	runs := runRoom[:6]
	before := slices.Clone(runRoom)
	for range 2 {
		for _, answer := range [][]Run{Align(a, b), Align(a, a), Tidy(runs), Tidy(runs[:1]), Tidy(runs[5:])} {
			whole := answer[:cap(answer)]
			for i := range whole {
				whole[i] = Run{9, 9}
			}
		}
		Distance(a, b)
		Common(b, a)
		Way(runs, a, b)
		Edits(runs)
		if !slices.Equal(runRoom, before) || !slices.Equal(room, row(1, 9)) {
			t.Fatalf("what was given is now %v, %v", runRoom, room)
		}
	}
	wantTidy(t, runs)
	wantAligned(t, a, b)
}

// P19.1: long rows, in a time that grows as they do.
func TestLong(t *testing.T) {
	begun := time.Now()
	long := row(0, 1<<20)
	other := slices.Concat(long[:1000], []int{-1}, long[1001:500000], []int{-2, -3}, long[500000:1000000], long[1000007:])
	want := []Run{{Keep, 1000}, {Drop, 1}, {Put, 1}, {Keep, 498999}, {Put, 2}, {Keep, 500000}, {Drop, 7}, {Keep, 1<<20 - 1000007}}
	if got := Align(long, other); !slices.Equal(got, want) || Distance(long, other) != 11 || !Way(got, long, other) {
		t.Errorf("long rows: %v, want %v", got, want)
	}
	ones := slices.Repeat([]int{1}, 1<<20)
	for _, x := range []struct {
		a, b []int
		want []Run
	}{
		{ones, ones[400:], []Run{{Keep, 1<<20 - 400}, {Drop, 400}}}, {ones, ones[401:], []Run{{Keep, 1<<20 - 401}, {Drop, 401}}}, {ones, long, []Run{{Drop, 1 << 20}, {Put, 1 << 20}}}, {nil, long, []Run{{Put, 1 << 20}}},
		{long, long[1<<19:], []Run{{Drop, 1 << 19}, {Keep, 1 << 19}}}, {long[:1<<19], long, []Run{{Keep, 1 << 19}, {Put, 1 << 19}}},
	} {
		if got := Align(x.a, x.b); !slices.Equal(got, x.want) {
			t.Errorf("long rows: %v, want %v", got, x.want)
		}
	}
	runs := slices.Repeat([]Run{{Put, 1}, {Drop, 1}, {Keep, 1}}, 1<<19)
	if got := Tidy(runs); len(got) != len(runs) || got[0] != (Run{Drop, 1}) || !Way(got, ones, ones) || Edits(got) != 1<<20 {
		t.Errorf("%d long runs, of %d", len(got), len(runs))
	}
	if took := time.Since(begun); took > 20*time.Second {
		t.Errorf("it took %v", took)
	}
}
