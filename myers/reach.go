package myers

// reach tells, by a number of edits d, how much of both rows' ends is made alike with so many. With x numbers of a's end and y of b's, x - y is one of -d, 2-d .. d; for each of these, in order, the greatest x stands there. (It may lie beyond the rows, as if numbers stood there that are like no others.)
//
// It begins at the ends, as rows are aligned from their beginnings on, by how far apart the rest of them is.
type reach [][]int

// reachOf is how far one gets with each number of edits up to the distance, and whether that is one that is told.
func reachOf(a, b []int) (reach, bool) {
	var far reach
	for d := 0; d <= maxDistance; d++ {
		far = append(far, far.next(a, b))
		if far.within(d, len(a), len(b)) {
			return far, true
		}
	}
	return nil, false
}

// next is how far one gets with one edit more than those there are.
func (far reach) next(a, b []int) []int {
	d := len(far)
	row := make([]int, d+1)
	for i := range row {
		row[i] = alike(a, b, far.edited(i), 2*i-d)
	}
	return row
}

// edited is how far one gets, at a place of the next row, by one more number of a, or of b, alone.
func (far reach) edited(at int) int {
	if len(far) == 0 {
		return 0
	}
	last := far[len(far)-1]
	switch at {
	case 0:
		return last[0]
	case len(last):
		return last[at-1] + 1
	}
	return max(last[at-1]+1, last[at])
}

// within tells whether the last x numbers of a and the last y of b are d edits apart, or fewer by an even number. (That is all fewer ones there may be, as x - y is even just if the edits are.)
func (far reach) within(d, x, y int) bool {
	at := x - y + d
	return at >= 0 && at <= 2*d && at%2 == 0 && x <= far[d][at/2]
}

// distance is how far the whole rows are apart.
func (far reach) distance() int { return len(far) - 1 }

// alike is how far one gets, from x numbers of a's end and x - k of b's on, as long as the next ones toward the beginnings are the same.
func alike(a, b []int, x, k int) int {
	for x < len(a) && x-k < len(b) && a[len(a)-1-x] == b[len(b)-1-x+k] {
		x++
	}
	return x
}
