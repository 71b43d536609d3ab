package value

import "slices"

// all tells whether something is so of each member of a list.
func all[T any](list []T, is func(T) bool) bool {
	for _, x := range list {
		if !is(x) {
			return false
		}
	}
	return true
}

// rises tells whether each member of a list comes ahead of the next one.
func rises[T any](list []T, compare func(a, b T) int) bool {
	for i := 1; i < len(list); i++ {
		if compare(list[i-1], list[i]) >= 0 {
			return false
		}
	}
	return true
}

// found is the member of a list that rises which stands in the place of x, or a zero one.
func found[T any](list []T, x T, compare func(a, b T) int) T {
	at, is := slices.BinarySearchFunc(list, x, compare)
	if !is {
		var none T
		return none
	}
	return list[at]
}

// with is a list that rises, anew, with x in its place (or with nothing there, if it isn't to stand there).
func with[T any](list []T, x T, stands bool, compare func(a, b T) int) []T {
	at, is := slices.BinarySearchFunc(list, x, compare)
	ahead, behind := list[:at], list[at:]
	if is {
		behind = behind[1:]
	}
	if !stands {
		return slices.Concat(ahead, behind)
	}
	return slices.Concat(ahead, []T{x}, behind)
}
