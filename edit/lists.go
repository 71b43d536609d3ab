package edit

// rightRow tells whether each member of a list is right, and may stand directly ahead of the next one.
func rightRow[T any](list []T, right func(x *T) bool, ahead func(x, next *T) bool) bool {
	for i := range list {
		if !right(&list[i]) || i > 0 && !ahead(&list[i-1], &list[i]) {
			return false
		}
	}
	return true
}

// has tells whether something is so of a member of a list.
func has[T any](list []T, is func(x *T) bool) bool {
	for i := range list {
		if is(&list[i]) {
			return true
		}
	}
	return false
}

// equalRow tells whether two lists are as long, and each member is equal to the other's.
func equalRow[T any](a, b []T, equal func(x, y *T) bool) bool {
	if len(a) != len(b) {
		return false
	}
	for i := range a {
		if !equal(&a[i], &b[i]) {
			return false
		}
	}
	return true
}

// sum is what the members of a list come to together.
func sum[T any](list []T, of func(x *T) int) int {
	all := 0
	for i := range list {
		all += of(&list[i])
	}
	return all
}

// most is the most that a member of a list comes to, or 0.
func most[T any](list []T, of func(x *T) int) int {
	all := 0
	for i := range list {
		all = max(all, of(&list[i]))
	}
	return all
}
