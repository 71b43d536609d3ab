package apply

import (
	"errors"
	"math"
	"slices"
	"testing"
	"time"

	"redline/api"
	"redline/edit"
	"redline/invert"
	"redline/value"
)

const (
	mostNumber = 536870911 // MaxNumber
	mostCount  = 1048576   // 2^20
)

// isError tells whether an error is the one that is wanted, also if none is.
func isError(err, want error) bool {
	if want == nil {
		return err == nil
	}
	return errors.Is(err, want)
}

// holdValue holds what comes of a value, or the error, against what is wanted; and what promise P23.2 tells of it.
func holdValue(t *testing.T, e edit.Edit, v, want value.Value, wantErr error) {
	t.Helper()
	got, err := Value(e, v)
	if !isError(err, wantErr) || !exact(got, want) {
		t.Fatalf("Value(%v, %v): %v, %v, want %v, %v", e, v, got, err, want, wantErr)
	}
	if Fits(e, v) != (wantErr == nil) {
		t.Fatalf("Fits(%v, %v): %v", e, v, !(wantErr == nil))
	}
	if wantErr == nil {
		holdBack(t, e, v, got)
	}
}

// holdBack holds that what came of a value is right, and that the other way makes the value of it again.
func holdBack(t *testing.T, e edit.Edit, v, made value.Value) {
	t.Helper()
	if !value.Right(made) {
		t.Fatalf("Value(%v, %v): %v isn't right", e, v, made)
	}
	back, err := Value(invert.Of(e), made)
	if err != nil || !exact(back, v) {
		t.Fatalf("Value(%v, %v): %v, %v, want %v", invert.Of(e), made, back, err, v)
	}
}

// holdModel holds what comes of a right edit and a right value against the model, and tells the error.
func holdModel(t *testing.T, e edit.Edit, v value.Value) error {
	t.Helper()
	want, err := modelValue(e, v)
	holdValue(t, e, v, want, err)
	return err
}

// done is an edit, a value to which it is done, and what comes of it: a value, or an error.
type done struct {
	e       edit.Edit
	v, want value.Value
	err     error
}

// kindsOf are right values of all kinds, at the edges, no two of which are the same.
func kindsOf() []value.Value {
	return []value.Value{
		{}, num(0), num(1), num(math.MaxUint64), str(""), str("a"), str("\xff"), str("\x00"), message(""), message("a"), message("", has(1, num(0))), message("", has(mostNumber, str(""))),
		list(num(0)), list(num(0), num(0)), list(str("")), list(message("")), table(pair(num(0), num(0))), table(pair(str(""), num(0))), table(pair(num(0), str(""))),
	}
}

// P23.1: the chapter's example.
func TestExample(t *testing.T) {
	got, err := Value(edit.Edit{Kind: edit.Swap, New: value.Num(1)}, value.Value{})
	if err != nil || !exact(got, value.Num(1)) || !Fits(edit.Edit{Kind: edit.Swap, New: value.Num(1)}, value.Value{}) {
		t.Errorf("%v, %v", got, err)
	}
}

// P23.1: Same leaves each value; a Swap makes New of Old, and of nothing else.
func TestSameAndSwap(t *testing.T) {
	for _, v := range kindsOf() {
		holdValue(t, edit.Edit{}, v, v, nil)
		for _, old := range kindsOf() {
			for _, new := range kindsOf() {
				switch {
				case value.Same(old, new):
				case value.Same(old, v):
					holdValue(t, swap(old, new), v, new, nil)
				default:
					holdValue(t, swap(old, new), v, value.Value{}, api.ErrClash)
				}
			}
		}
	}
}

// P23.1: Into, Row and Book of values of kinds that they can't be done to.
func TestOtherKinds(t *testing.T) {
	one := num(1)
	for _, v := range kindsOf() {
		if v.Kind != value.Message {
			for _, e := range []edit.Edit{into(field(1, comes(one))), into(field(1, goes(one))), rests("", "a"), rests("a", ""), into(field(1, row(put(one))))} {
				holdValue(t, e, v, value.Value{}, api.ErrClash)
			}
		}
		if v.Kind != value.List && v.Kind != value.None {
			for _, e := range []edit.Edit{row(put(one)), row(drop(one)), row(drop(v)), row(change(comes(one))), row(kept(1), put(one))} {
				if edit.Right(e) {
					holdValue(t, e, v, value.Value{}, api.ErrClash)
				}
			}
		}
		if v.Kind != value.Map && v.Kind != value.None {
			for _, e := range []edit.Edit{book(key(one, comes(one))), book(key(str(""), comes(one))), book(key(one, goes(one)))} {
				holdValue(t, e, v, value.Value{}, api.ErrClash)
			}
		}
	}
}

// intos are edits of the kind Into, done to messages.
func intos() []done {
	a, b, none := num(1), str("b"), value.Value{}
	l, m, x := list(a, b), message("m", has(4, a)), table(pair(a, b))
	whole := message("r", has(1, a), has(2, l), has(3, m), has(5, x))
	return []done{
		{into(field(1, comes(a))), message(""), message("", has(1, a)), nil}, {into(field(mostNumber, comes(m))), message("r"), message("r", has(mostNumber, m)), nil},
		{into(field(1, comes(l))), message("r", has(2, a)), message("r", has(1, l), has(2, a)), nil}, {into(field(2, comes(x))), message("", has(1, a), has(3, b)), message("", has(1, a), has(2, x), has(3, b)), nil}, {into(field(3, comes(m))), message("", has(1, a), has(2, b)), message("", has(1, a), has(2, b), has(3, m)), nil},
		{into(field(1, goes(a))), message("", has(1, a)), message(""), nil}, {into(field(1, goes(a))), message("r", has(1, a), has(2, b)), message("r", has(2, b)), nil}, {into(field(2, goes(b))), message("", has(1, a), has(2, b)), message("", has(1, a)), nil}, {into(field(2, goes(l))), whole, message("r", has(1, a), has(3, m), has(5, x)), nil},
		{into(field(1, swap(a, b))), whole, message("r", has(1, b), has(2, l), has(3, m), has(5, x)), nil}, {into(field(5, swap(x, l))), whole, message("r", has(1, a), has(2, l), has(3, m), has(5, l)), nil},
		{into(field(1, goes(a)), field(2, goes(l)), field(3, goes(m)), field(4, comes(b)), field(5, goes(x)), field(6, comes(m))), whole, message("r", has(4, b), has(6, m)), nil},
		{into(field(2, row(drop(a), kept(1)))), whole, message("r", has(1, a), has(2, list(b)), has(3, m), has(5, x)), nil}, {into(field(2, row(drop(a), drop(b)))), whole, message("r", has(1, a), has(3, m), has(5, x)), nil}, {into(field(6, row(put(a)))), message(""), message("", has(6, list(a))), nil},
		{into(field(5, book(key(a, goes(b))))), whole, message("r", has(1, a), has(2, l), has(3, m)), nil}, {into(field(4, book(key(b, comes(b))))), whole, message("r", has(1, a), has(2, l), has(3, m), has(4, table(pair(b, b))), has(5, x)), nil},
		{into(field(3, rests("m", "", field(4, goes(a))))), whole, message("r", has(1, a), has(2, l), has(3, message("")), has(5, x)), nil},
		{rests("", "a"), message(""), message("a"), nil}, {rests("a", ""), message("a"), message(""), nil}, {rests("r", "\xff"), whole, message("\xff", whole.Fields...), nil}, {rests("r", "", field(1, goes(a)), field(9, comes(b))), whole, message("", has(2, l), has(3, m), has(5, x), has(9, b)), nil},

		{into(field(1, comes(a))), message("", has(1, a)), none, api.ErrClash}, {into(field(1, comes(a))), message("", has(1, b)), none, api.ErrClash}, {into(field(1, goes(a))), message(""), none, api.ErrClash}, {into(field(1, goes(a))), message("", has(1, b)), none, api.ErrClash}, {into(field(1, goes(a))), message("", has(2, a)), none, api.ErrClash}, {into(field(3, goes(a))), message("", has(2, a)), none, api.ErrClash},
		{into(field(1, comes(a)), field(2, goes(a))), message(""), none, api.ErrClash}, {into(field(1, rests("", "a"))), message(""), none, api.ErrClash}, {into(field(1, row(drop(a)))), message(""), none, api.ErrClash}, {into(field(1, book(key(a, goes(a))))), message(""), none, api.ErrClash},
		{rests("", "a"), message("a"), none, api.ErrClash}, {rests("a", ""), message(""), none, api.ErrClash}, {rests("a", "b"), message("ab"), none, api.ErrClash}, {rests("a", "", field(1, comes(a))), message("b"), none, api.ErrClash},
		// The fields stand ahead of the Rest, and a field of a less number ahead of one of a greater one.
		{rests("a", "b", field(1, row(change(goes(a))))), message("c", has(1, list(a))), none, api.ErrKind}, {rests("a", "b", field(1, row(change(goes(a))))), message("a", has(1, list(a))), none, api.ErrKind},
		{into(field(1, row(change(goes(a)))), field(2, goes(a))), message("", has(1, list(a))), none, api.ErrKind}, {into(field(1, goes(a)), field(2, row(change(goes(a))))), message("", has(2, list(a))), none, api.ErrClash},
	}
}

// rows are edits of the kind Row, done to lists and None.
func rows() []done {
	a, b, c, none := num(1), str("b"), message("c"), value.Value{}
	abc := list(a, b, c)
	return []done{
		{row(put(a)), none, list(a), nil}, {row(put(a), put(b), put(a)), none, list(a, b, a), nil}, {row(drop(a)), list(a), none, nil}, {row(drop(a), drop(b), drop(c)), abc, none, nil},
		{row(put(a), kept(3)), abc, list(a, a, b, c), nil}, {row(kept(3), put(a)), abc, list(a, b, c, a), nil}, {row(kept(1), put(c), kept(2)), abc, list(a, c, b, c), nil},
		{row(drop(a), kept(2)), abc, list(b, c), nil}, {row(kept(2), drop(c)), abc, list(a, b), nil}, {row(kept(1), drop(b), kept(1)), abc, list(a, c), nil}, {row(drop(a), drop(b), kept(1)), abc, list(c), nil},
		{row(drop(a), drop(b), drop(c), put(c), put(b), put(a)), abc, list(c, b, a), nil}, {row(drop(a), put(a), kept(2)), abc, abc, nil}, {row(drop(a), put(c), drop(b)), list(a, b), none, api.ErrForm},
		{row(change(swap(a, b)), kept(2)), abc, list(b, b, c), nil}, {row(kept(1), change(swap(b, c)), kept(1)), abc, list(a, c, c), nil}, {row(kept(2), change(rests("c", "", field(1, comes(a))))), abc, list(a, b, message("", has(1, a))), nil}, {row(change(swap(a, c)), change(swap(b, a)), change(swap(c, b))), abc, list(c, a, b), nil},
		{row(change(swap(a, b)), put(a), change(swap(b, a)), drop(c)), abc, list(b, a, a), nil}, {row(drop(a), change(swap(b, a)), put(c), drop(c)), abc, none, api.ErrForm}, {row(put(c), change(swap(a, b)), drop(b), put(a), kept(1)), abc, list(c, b, a, c), nil},

		{row(drop(a)), none, none, api.ErrClash}, {row(kept(1), put(a)), none, none, api.ErrClash}, {row(put(a), kept(1)), none, none, api.ErrClash}, {row(put(a), kept(mostCount)), none, none, api.ErrClash}, {row(change(swap(a, b))), none, none, api.ErrClash},
		{row(change(comes(a))), none, none, api.ErrClash}, {row(change(row(put(a)))), none, none, api.ErrClash}, {row(kept(3), change(comes(a))), abc, none, api.ErrClash}, {row(kept(3), change(row(put(a)))), abc, none, api.ErrClash}, {row(put(a), change(swap(a, b))), none, none, api.ErrClash},
		{row(put(a)), list(a), none, api.ErrClash}, {row(drop(a)), list(a, a), none, api.ErrClash}, {row(kept(2), put(a)), abc, none, api.ErrClash}, {row(put(a), kept(2)), abc, none, api.ErrClash}, {row(kept(1), change(swap(b, a))), abc, none, api.ErrClash},
		{row(kept(4), put(a)), abc, none, api.ErrClash}, {row(put(a), kept(4)), abc, none, api.ErrClash}, {row(put(a), kept(mostCount)), abc, none, api.ErrClash}, {row(kept(3), drop(a)), abc, none, api.ErrClash}, {row(drop(a), kept(3)), abc, none, api.ErrClash},
		{row(drop(b), kept(2)), abc, none, api.ErrClash}, {row(kept(1), drop(a), kept(1)), abc, none, api.ErrClash}, {row(kept(2), drop(message(""))), abc, none, api.ErrClash}, {row(change(swap(b, a)), kept(2)), abc, none, api.ErrClash},
		{row(change(row(put(a))), kept(2)), abc, none, api.ErrClash}, {row(change(book(key(a, comes(a)))), kept(2)), abc, none, api.ErrClash}, {row(change(rests("c", "")), kept(2)), abc, none, api.ErrClash}, {row(change(comes(b)), kept(2)), abc, none, api.ErrClash},

		{row(change(goes(a)), kept(2)), abc, none, api.ErrKind}, {row(kept(2), change(goes(c))), abc, none, api.ErrKind}, {row(kept(1), change(swap(b, list(b))), kept(1)), abc, none, api.ErrKind}, {row(kept(1), change(swap(b, table(pair(a, b)))), kept(1)), abc, none, api.ErrKind},
		// Step by step, the first one's error.
		{row(change(goes(a)), drop(a), kept(1)), abc, none, api.ErrKind}, {row(drop(b), change(goes(b)), kept(1)), abc, none, api.ErrClash}, {row(change(goes(a))), abc, none, api.ErrKind}, {row(change(goes(a)), kept(9)), abc, none, api.ErrKind}, {row(change(goes(b)), change(goes(b)), kept(1)), abc, none, api.ErrClash}, {row(kept(9), change(goes(a))), abc, none, api.ErrClash},
	}
}

// books are edits of the kind Book, done to maps and None.
func books() []done {
	a, b, c, none := num(1), str("b"), message("c"), value.Value{}
	l, x, far := list(a), table(pair(a, a)), num(1<<63)
	nums, texts := table(pair(a, a), pair(num(3), b), pair(far, c)), table(pair(str(""), a), pair(str("B"), b), pair(str("a"), c))
	return []done{
		{book(key(a, comes(b))), none, table(pair(a, b)), nil}, {book(key(str(""), comes(c))), none, table(pair(str(""), c)), nil}, {book(key(a, comes(a)), key(num(2), comes(b)), key(far, comes(c))), none, table(pair(a, a), pair(num(2), b), pair(far, c)), nil},
		{book(key(num(0), comes(b))), nums, table(pair(num(0), b), pair(a, a), pair(num(3), b), pair(far, c)), nil}, {book(key(num(2), comes(b))), nums, table(pair(a, a), pair(num(2), b), pair(num(3), b), pair(far, c)), nil}, {book(key(num(math.MaxUint64), comes(b))), nums, table(pair(a, a), pair(num(3), b), pair(far, c), pair(num(math.MaxUint64), b)), nil},
		{book(key(str("A"), comes(b))), texts, table(pair(str(""), a), pair(str("A"), b), pair(str("B"), b), pair(str("a"), c)), nil}, {book(key(str("aa"), comes(b))), texts, table(pair(str(""), a), pair(str("B"), b), pair(str("a"), c), pair(str("aa"), b)), nil}, {book(key(str("Ba"), comes(b)), key(str("\xff"), comes(b))), texts, table(pair(str(""), a), pair(str("B"), b), pair(str("Ba"), b), pair(str("a"), c), pair(str("\xff"), b)), nil},
		{book(key(a, goes(a))), nums, table(pair(num(3), b), pair(far, c)), nil}, {book(key(str("B"), goes(b))), texts, table(pair(str(""), a), pair(str("a"), c)), nil}, {book(key(far, goes(c))), nums, table(pair(a, a), pair(num(3), b)), nil},
		{book(key(a, goes(a)), key(num(3), goes(b)), key(far, goes(c))), nums, none, nil}, {book(key(a, goes(a)), key(num(2), comes(c)), key(num(3), goes(b)), key(far, goes(c))), nums, table(pair(num(2), c)), nil}, {book(key(b, goes(a))), table(pair(b, a)), none, nil},
		{book(key(a, swap(a, c))), nums, table(pair(a, c), pair(num(3), b), pair(far, c)), nil}, {book(key(str("a"), rests("c", "", field(7, comes(l))))), texts, table(pair(str(""), a), pair(str("B"), b), pair(str("a"), message("", has(7, l)))), nil},

		{book(key(a, comes(a))), nums, none, api.ErrClash}, {book(key(a, comes(b))), nums, none, api.ErrClash}, {book(key(num(2), goes(b))), nums, none, api.ErrClash}, {book(key(num(3), goes(a))), nums, none, api.ErrClash}, {book(key(num(2), swap(a, b))), nums, none, api.ErrClash}, {book(key(a, goes(a))), none, none, api.ErrClash},
		{book(key(num(2), rests("", "a"))), nums, none, api.ErrClash}, {book(key(num(2), row(drop(a)))), nums, none, api.ErrClash}, {book(key(a, row(put(a)))), nums, none, api.ErrClash}, {book(key(a, book(key(a, comes(a))))), nums, none, api.ErrClash}, {book(key(a, rests("", "a"))), nums, none, api.ErrClash},
		// Keys of another kind than those that are there.
		{book(key(str("a"), comes(b))), nums, none, api.ErrClash}, {book(key(a, comes(b))), texts, none, api.ErrClash}, {book(key(str(""), comes(b))), table(pair(num(0), a)), none, api.ErrClash}, {book(key(num(0), goes(a))), table(pair(str(""), a)), none, api.ErrClash}, {book(key(str("b"), comes(l))), nums, none, api.ErrClash}, {book(key(num(7), row(put(a)))), texts, none, api.ErrClash},

		{book(key(a, swap(a, l))), nums, none, api.ErrKind}, {book(key(a, swap(a, x))), nums, none, api.ErrKind}, {book(key(num(2), comes(l))), nums, none, api.ErrKind}, {book(key(num(2), comes(x))), nums, none, api.ErrKind}, {book(key(num(2), row(put(a)))), nums, none, api.ErrKind}, {book(key(num(2), book(key(a, comes(a))))), nums, none, api.ErrKind}, {book(key(b, row(put(a)))), none, none, api.ErrKind}, {book(key(b, comes(x))), none, none, api.ErrKind},
		// Key by key, the first one's error.
		{book(key(a, swap(a, l)), key(num(2), goes(a))), nums, none, api.ErrKind}, {book(key(a, goes(b)), key(num(2), comes(l))), nums, none, api.ErrClash}, {book(key(a, goes(a)), key(num(2), book(key(a, goes(a))))), nums, none, api.ErrClash},
	}
}

func written() []done { return slices.Concat(intos(), rows(), books()) }

// P23.1, P23.2: edits written out.
func TestWritten(t *testing.T) {
	for _, x := range written() {
		if edit.Right(x.e) == errors.Is(x.err, api.ErrForm) || !value.Right(x.v) || !value.Right(x.want) {
			t.Fatalf("%v", x)
		}
		holdValue(t, x.e, x.v, x.want, x.err)
		holdValue(t, editCopy(x.e), valueCopy(x.v), x.want, x.err)
	}
}

// P23.1, P23.2: the same edits within fields, lists and maps: with what stands beside the value, and what a list or a map can't hold.
func TestWithin(t *testing.T) {
	nine, none := num(9), value.Value{}
	for _, x := range written() {
		single := func(v value.Value) bool { return v.Kind >= value.Number && v.Kind <= value.Message }
		beside := message("r", has(4, nine), has(6, nine))
		was, want := value.With(beside, 5, x.v), value.With(beside, 5, x.want)
		if x.err != nil {
			want = none
		}
		holdValue(t, into(field(5, x.e)), was, want, x.err)
		if edit.Right(x.e) {
			// An error of the field ahead comes first, and one of the field behind doesn't come.
			holdValue(t, into(field(4, goes(num(8))), field(5, x.e)), was, none, api.ErrClash)
		}
		if x.err != nil {
			holdValue(t, into(field(4, swap(nine, none)), field(5, x.e), field(6, row(change(goes(nine))))), was, none, x.err)
		}
		holdValue(t, into(field(7, into(field(5, x.e)))), message("", has(7, was)), ifNone(x.err, message("", has(7, want))), x.err)

		if single(x.v) {
			want, err := list(nine, x.want, nine), x.err
			if err == nil && !single(x.want) {
				err = api.ErrKind
			}
			holdValue(t, row(kept(1), change(x.e), kept(1)), list(nine, x.v, nine), ifNone(err, want), err)
		}
		if single(x.v) || x.v.Kind == value.None {
			pairs, err := table(pair(num(1), nine), pair(num(3), nine)), x.err
			want := value.Put(pairs, num(2), x.want)
			if err == nil && !single(x.want) && x.want.Kind != value.None {
				err = api.ErrKind
			}
			holdValue(t, book(key(num(2), x.e)), value.Put(pairs, num(2), x.v), ifNone(err, want), err)
		}
	}
}

// ifNone is a value, if there is no error.
func ifNone(err error, v value.Value) value.Value {
	if err != nil {
		return value.Value{}
	}
	return v
}

// wrongEdits aren't right, but for what is done to them they could be.
func wrongEdits() []edit.Edit {
	one := num(1)
	wrong := []edit.Edit{
		{Kind: -1}, {Kind: 5}, {Kind: math.MinInt}, {Kind: math.MaxInt}, {New: one}, {Rests: true}, {Steps: []edit.Step{put(one)}}, {Fields: []edit.Field{{}}}, {Keys: []edit.Key{{}}},
		swap(value.Value{}, value.Value{}), swap(one, one), swap(one, value.Value{Kind: value.Number, Text: "a"}), swap(list(), one), swap(one, list()), swap(one, value.Value{Kind: 6}), {Kind: edit.Swap, New: one, Rests: true},
		into(), rests("", ""), rests("a", "a"), {Kind: edit.Into, RestNew: "a"}, into(field(0, comes(one))), into(field(-1, comes(one))), into(field(mostNumber+1, comes(one))), into(field(1, edit.Edit{})), into(field(2, comes(one)), field(1, comes(one))), into(field(1, comes(one)), field(1, swap(one, num(2)))), {Kind: edit.Into, Fields: []edit.Field{field(1, comes(one))}, Steps: []edit.Step{put(one)}},
		row(), row(kept(1)), row(kept(1), kept(1), put(one)), row(put(one), drop(one)), row(kept(0), put(one)), row(kept(-1), put(one)), row(kept(mostCount+1), put(one)), row(kept(math.MinInt), put(one)), row(kept(math.MaxInt), put(one)), row(put(value.Value{})), row(put(list(one))), row(drop(table(pair(one, one)))), row(change(edit.Edit{})), row(edit.Step{}), row(edit.Step{Kind: 5}), row(edit.Step{Kind: edit.Put, Count: 1, Value: one}),
		book(), book(key(one, edit.Edit{})), book(key(value.Value{}, comes(one))), book(key(message(""), comes(one))), book(key(one, comes(one)), key(one, comes(one))), book(key(num(2), comes(one)), key(one, comes(one))), book(key(one, comes(one)), key(str("a"), comes(one))),
	}
	for _, e := range wrong[:len(wrong):len(wrong)] {
		wrong = append(wrong, into(field(1, e)), row(change(e)), book(key(one, e)), rests("", "a", field(1, comes(one)), field(2, row(put(one), change(book(key(one, e)))))))
	}
	return wrong
}

func wrongValues() []value.Value {
	one := num(1)
	wrong := []value.Value{
		{Kind: -1}, {Kind: 6}, {Kind: math.MinInt}, {Kind: math.MaxInt}, {Number: 1}, {Text: "a"}, {Rest: "a"}, {List: []value.Value{{}}}, {Fields: []value.Field{{}}}, {Pairs: []value.Pair{{}}},
		{Kind: value.Number, Text: "a"}, {Kind: value.Text, Number: 1}, {Kind: value.Message, Text: "a"}, message("", has(0, one)), message("", has(mostNumber+1, one)), message("", has(1, value.Value{})), message("", has(2, one), has(1, one)), message("", has(1, one), has(1, one)),
		list(), list(value.Value{}), list(list(one)), table(), table(value.Pair{}), table(pair(message(""), one)), table(pair(one, list(one))), table(pair(num(2), one), pair(one, one)), table(pair(one, one), pair(str("a"), one)),
	}
	for _, v := range wrong[:len(wrong):len(wrong)] {
		wrong = append(wrong, message("", has(1, v)), list(one, v), table(pair(one, v)), message("", has(7, list(message("", has(1, one), has(9, v))))))
	}
	return wrong
}

// P23.1: ErrForm of edits and values that aren't right, ahead of all other errors, whatever the other one is.
func TestForm(t *testing.T) {
	for _, e := range wrongEdits() {
		if edit.Right(e) {
			t.Fatalf("%v is right", e)
		}
		for _, v := range slices.Concat(kindsOf(), wrongValues()) {
			holdValue(t, e, v, value.Value{}, api.ErrForm)
		}
	}
	for _, v := range wrongValues() {
		if value.Right(v) {
			t.Fatalf("%v is right", v)
		}
		holdValue(t, edit.Edit{}, v, value.Value{}, api.ErrForm)
		holdValue(t, swap(num(1), num(2)), v, value.Value{}, api.ErrForm)
		for _, x := range written() {
			holdValue(t, x.e, v, value.Value{}, api.ErrForm)
		}
	}
}

// shortRows are all rows of what is given up to a length.
func shortRows[T any](of []T, length int) [][]T {
	all := [][]T{nil}
	last := all
	for range length {
		var next [][]T
		for _, row := range last {
			for _, x := range of {
				next = append(next, append(slices.Clone(row), x))
			}
		}
		all = append(all, next...)
		last = next
	}
	return all
}

// P23.1, P23.2: all short rows of steps, done to all short lists.
func TestStepsShort(t *testing.T) {
	errs := map[error]int{}
	steps := shortRows([]edit.Step{kept(1), kept(2), drop(num(1)), drop(num(2)), put(num(1)), change(swap(num(1), num(2))), change(goes(num(2)))}, 5)
	lists := shortRows([]value.Value{num(1), num(2)}, 4)
	for _, s := range steps {
		e := row(s...)
		if !edit.Right(e) {
			continue
		}
		for _, l := range lists {
			v := list(l...)
			if len(l) == 0 {
				v = value.Value{}
			}
			errs[holdModel(t, e, v)]++
		}
	}
	if errs[nil] < 1000 || errs[api.ErrClash] < 1000 || errs[api.ErrKind] < 1000 {
		t.Errorf("%v", errs)
	}
}

// P23.1, P23.2: edits by chance from one value to another one make that; done to others they make what the model tells.
func TestByChance(t *testing.T) {
	kinds, errs := map[int]int{}, map[error]int{}
	for seed := range uint64(400) {
		m := newMaker(seed)
		for range 50 {
			v := m.value(3)
			w := m.near(v, 3)
			e := m.to(v, w)
			if !edit.Right(e) || !value.Right(v) || !value.Right(w) {
				t.Fatalf("%v, of %v and %v, isn't right", e, v, w)
			}
			kinds[e.Kind]++
			holdValue(t, e, v, w, nil)
			errs[holdModel(t, e, m.near(v, 3))]++
			errs[holdModel(t, invert.Of(e), m.near(w, 3))]++
			m.wild = true
			e = m.to(v, w)
			m.wild = false
			errs[holdModel(t, e, v)]++
			errs[holdModel(t, e, m.near(v, 3))]++
		}
	}
	for kind := edit.Same; kind <= edit.Book; kind++ {
		if kinds[kind] < 500 {
			t.Errorf("only %d of the kind %d", kinds[kind], kind)
		}
	}
	if errs[nil] < 1000 || errs[api.ErrClash] < 1000 || errs[api.ErrKind] < 1000 {
		t.Errorf("%v", errs)
	}
}

// overwrite puts something else in place of each member of a list, and of the room behind it.
func overwrite[T any](list []T, x T) {
	list = list[:cap(list)]
	for i := range list {
		list[i] = x
	}
}

// P23.1: nothing that is given is changed, nor the room behind it, whether there is an error or not; and what is answered has no room of what is given behind it.
func TestApart(t *testing.T) {
	hold := func(e edit.Edit, v value.Value) {
		t.Helper()
		e2, v2 := editCopy(e), valueCopy(v)
		got, _ := Value(e2, v2)
		Fits(e2, v2)
		// In what is answered there may be parts of what was given; but the list that the edit made anew is the caller's.
		switch e.Kind {
		case edit.Into:
			overwrite(got.Fields, has(99, num(99)))
		case edit.Row:
			overwrite(got.List, num(99))
		case edit.Book:
			overwrite(got.Pairs, pair(num(99), num(99)))
		}
		if !editExact(e, e2) || !exact(v, v2) || !editRoomZero(e2) || !valueRoomZero(v2) {
			t.Fatalf("Value(%v, %v) changed them to %v, %v", e, v, e2, v2)
		}
	}
	for _, x := range written() {
		hold(x.e, x.v)
		hold(into(field(5, x.e)), message("", has(4, num(1)), has(5, x.v), has(6, num(1))))
	}
	for seed := range uint64(40) {
		m := newMaker(1000 + seed)
		for range 50 {
			v := m.value(3)
			w := m.near(v, 3)
			hold(m.to(v, w), v)
			hold(m.to(v, w), w)
		}
	}
}

// P23.1, P23.2: deep edits.
func TestDeep(t *testing.T) {
	begun := time.Now()
	e, v, want := swap(num(1), num(2)), num(1), num(2)
	for i := range 1<<15 - 1 {
		switch i % 2 {
		case 0:
			e, v, want = into(field(1, e)), message("", has(1, v)), message("", has(1, want))
		case 1:
			if i%4 == 1 {
				e, v, want = into(field(2, row(kept(1), change(e)))), message("", has(2, list(num(1), v))), message("", has(2, list(num(1), want)))
			} else {
				e, v, want = into(field(3, book(key(num(1), e)))), message("", has(3, table(pair(num(1), v)))), message("", has(3, table(pair(num(1), want))))
			}
		}
	}
	got, err := Value(e, v)
	if err != nil || !value.Same(got, want) {
		t.Error("deep edits", err)
	}
	if back, err := Value(invert.Of(e), got); err != nil || !value.Same(back, v) {
		t.Error("deep edits the other way", err)
	}
	if got, err := Value(e, want); !isError(err, api.ErrClash) || got.Kind != value.None {
		t.Error("deep edits that clash", err)
	}
	if took := time.Since(begun); took > 20*time.Second {
		t.Errorf("it took %v", took)
	}
}

// P23.1, P23.2: long edits and values, in a time that grows as they do.
func TestLong(t *testing.T) {
	begun := time.Now()
	const long = 1 << 16
	var fields []edit.Field
	var keys []edit.Key
	var steps []edit.Step
	v, l, b := message(""), list(), table()
	for i := range long {
		n := num(uint64(i))
		v.Fields = append(v.Fields, has(2*i+1, n))
		l.List = append(l.List, n)
		b.Pairs = append(b.Pairs, pair(num(uint64(2*i)), n))
		switch i % 3 {
		case 0:
			fields, keys = append(fields, field(2*i+1, goes(n))), append(keys, key(num(uint64(2*i)), goes(n)))
			steps = append(steps, drop(n))
		case 1:
			fields, keys = append(fields, field(2*i+2, comes(n))), append(keys, key(num(uint64(2*i+1)), comes(n)))
			steps = append(steps, change(swap(n, str("a"))))
		case 2:
			fields, keys = append(fields, field(2*i+1, swap(n, str("a")))), append(keys, key(num(uint64(2*i)), swap(n, str("a"))))
			steps = append(steps, kept(1), put(n), put(n))
		}
	}
	tidy := row(edit.Tidy(steps)...)
	for _, x := range []done{{e: into(fields...), v: v}, {e: tidy, v: l}, {e: book(keys...), v: b}, {e: into(field(1, tidy)), v: message("", has(1, l))}} {
		if !edit.Right(x.e) {
			t.Fatal("it isn't right")
		}
		if err := holdModel(t, x.e, x.v); err != nil {
			t.Error(err)
		}
	}
	most := list(slices.Repeat([]value.Value{num(7)}, mostCount)...)
	got, err := Value(row(kept(mostCount), put(num(1))), most)
	if err != nil || len(got.List) != mostCount+1 || got.List[mostCount-1].Number != 7 || got.List[mostCount].Number != 1 {
		t.Errorf("%d, %v", len(got.List), err)
	}
	if took := time.Since(begun); took > 20*time.Second {
		t.Errorf("it took %v", took)
	}
}
