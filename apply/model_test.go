package apply

import (
	"maps"
	"slices"
	"strconv"
	"strings"

	"redline/api"
	"redline/edit"
	"redline/value"
)

// The model is the chapter's words, told in another way than the program tells them: values are taken apart into maps and put together anew, and steps are laid out one value each. Kinds stand as numbers here.

// modelValue is what comes of a right edit and a right value.
func modelValue(e edit.Edit, v value.Value) (value.Value, error) {
	switch e.Kind {
	case 0:
		return v, nil
	case 1:
		if !exact(e.Old, v) {
			return value.Value{}, api.ErrClash
		}
		return e.New, nil
	case 2:
		return modelInto(e, v)
	case 3:
		return modelRow(e, v)
	}
	return modelBook(e, v)
}

func modelInto(e edit.Edit, v value.Value) (value.Value, error) {
	if v.Kind != 3 {
		return value.Value{}, api.ErrClash
	}
	fields := map[int]value.Value{}
	for _, f := range v.Fields {
		fields[f.Number] = f.Value
	}
	for _, f := range e.Fields {
		x, err := modelValue(f.Edit, fields[f.Number])
		if err != nil {
			return value.Value{}, err
		}
		fields[f.Number] = x
	}
	made := value.Value{Kind: 3, Rest: v.Rest}
	for _, n := range slices.Sorted(maps.Keys(fields)) {
		if fields[n].Kind != 0 {
			made.Fields = append(made.Fields, value.Field{Number: n, Value: fields[n]})
		}
	}
	if e.Rests && v.Rest != e.RestOld {
		return value.Value{}, api.ErrClash
	}
	if e.Rests {
		made.Rest = e.RestNew
	}
	return made, nil
}

func modelRow(e edit.Edit, v value.Value) (value.Value, error) {
	if v.Kind != 0 && v.Kind != 4 {
		return value.Value{}, api.ErrClash
	}
	var steps []edit.Step // each Keep laid out as Keeps of one, so many as there may be, and one more
	for _, s := range e.Steps {
		if s.Kind != 1 {
			steps = append(steps, s)
			continue
		}
		for range min(s.Count, len(v.List)+1) {
			steps = append(steps, edit.Step{Kind: 1, Count: 1})
		}
	}
	made, at := value.Value{Kind: 4}, 0
	for _, s := range steps {
		if s.Kind == 3 {
			made.List = append(made.List, s.Value)
			continue
		}
		if at >= len(v.List) || s.Kind == 2 && !exact(v.List[at], s.Value) {
			return value.Value{}, api.ErrClash
		}
		if s.Kind == 1 {
			made.List = append(made.List, v.List[at])
		}
		if s.Kind == 4 {
			x, err := modelValue(s.Edit, v.List[at])
			if err != nil {
				return value.Value{}, err
			}
			if x.Kind != 1 && x.Kind != 2 && x.Kind != 3 {
				return value.Value{}, api.ErrKind
			}
			made.List = append(made.List, x)
		}
		at++
	}
	switch {
	case at < len(v.List):
		return value.Value{}, api.ErrClash
	case len(made.List) == 0:
		return value.Value{}, nil
	}
	return made, nil
}

// modelBook has the pairs by their keys' texts; those of numbers are written with all their figures, so that they rise as the numbers do.
func modelBook(e edit.Edit, v value.Value) (value.Value, error) {
	if v.Kind != 0 && v.Kind != 5 {
		return value.Value{}, api.ErrClash
	}
	name := func(key value.Value) string {
		if key.Kind == 2 {
			return "text" + key.Text
		}
		figures := strconv.FormatUint(key.Number, 10)
		return "number" + strings.Repeat("0", 20-len(figures)) + figures
	}
	pairs := map[string]value.Pair{}
	for _, p := range v.Pairs {
		pairs[name(p.Key)] = p
	}
	for _, k := range e.Keys {
		for _, p := range pairs {
			if p.Key.Kind != k.Key.Kind {
				return value.Value{}, api.ErrClash
			}
			break // they are all of one kind
		}
		x, err := modelValue(k.Edit, pairs[name(k.Key)].Value)
		if err != nil {
			return value.Value{}, err
		}
		switch x.Kind {
		case 0:
			delete(pairs, name(k.Key))
		case 1, 2, 3:
			pairs[name(k.Key)] = value.Pair{Key: k.Key, Value: x}
		default:
			return value.Value{}, api.ErrKind
		}
	}
	if len(pairs) == 0 {
		return value.Value{}, nil
	}
	made := value.Value{Kind: 5}
	for _, n := range slices.Sorted(maps.Keys(pairs)) {
		made.Pairs = append(made.Pairs, pairs[n])
	}
	return made, nil
}

// exact tells whether two values are so all over, also in what their kinds don't have.
func exact(a, b value.Value) bool {
	return a.Kind == b.Kind && a.Number == b.Number && a.Text == b.Text && a.Rest == b.Rest &&
		slices.EqualFunc(a.Fields, b.Fields, func(f, g value.Field) bool { return f.Number == g.Number && exact(f.Value, g.Value) }) &&
		slices.EqualFunc(a.List, b.List, exact) &&
		slices.EqualFunc(a.Pairs, b.Pairs, func(p, q value.Pair) bool { return exact(p.Key, q.Key) && exact(p.Value, q.Value) })
}

// editExact tells whether two edits are so all over.
func editExact(a, b edit.Edit) bool {
	return a.Kind == b.Kind && exact(a.Old, b.Old) && exact(a.New, b.New) &&
		a.Rests == b.Rests && a.RestOld == b.RestOld && a.RestNew == b.RestNew &&
		slices.EqualFunc(a.Fields, b.Fields, func(f, g edit.Field) bool { return f.Number == g.Number && editExact(f.Edit, g.Edit) }) &&
		slices.EqualFunc(a.Steps, b.Steps, func(s, t edit.Step) bool {
			return s.Kind == t.Kind && s.Count == t.Count && exact(s.Value, t.Value) && editExact(s.Edit, t.Edit)
		}) &&
		slices.EqualFunc(a.Keys, b.Keys, func(k, l edit.Key) bool { return exact(k.Key, l.Key) && editExact(k.Edit, l.Edit) })
}

// roomy is a list anew, of members anew, with room behind it, that is zero.
func roomy[T any](list []T, anew func(x T) T) []T {
	c := make([]T, 0, len(list)+3)
	for _, x := range list {
		c = append(c, anew(x))
	}
	return c
}

// valueCopy shares nothing with a value, and has room behind each list.
func valueCopy(v value.Value) value.Value {
	v.Fields = roomy(v.Fields, func(f value.Field) value.Field { return value.Field{Number: f.Number, Value: valueCopy(f.Value)} })
	v.List = roomy(v.List, valueCopy)
	v.Pairs = roomy(v.Pairs, func(p value.Pair) value.Pair { return value.Pair{Key: valueCopy(p.Key), Value: valueCopy(p.Value)} })
	return v
}

// editCopy shares nothing with an edit, and has room behind each list.
func editCopy(e edit.Edit) edit.Edit {
	e.Old, e.New = valueCopy(e.Old), valueCopy(e.New)
	e.Fields = roomy(e.Fields, func(f edit.Field) edit.Field { return edit.Field{Number: f.Number, Edit: editCopy(f.Edit)} })
	e.Steps = roomy(e.Steps, func(s edit.Step) edit.Step {
		return edit.Step{Kind: s.Kind, Count: s.Count, Value: valueCopy(s.Value), Edit: editCopy(s.Edit)}
	})
	e.Keys = roomy(e.Keys, func(k edit.Key) edit.Key { return edit.Key{Key: valueCopy(k.Key), Edit: editCopy(k.Edit)} })
	return e
}

// roomZero tells whether the room behind a list is zero still, and something is so of each member.
func roomZero[T any](list []T, zero func(x T) bool, is func(x T) bool) bool {
	return !slices.ContainsFunc(list[len(list):cap(list)], func(x T) bool { return !zero(x) }) && !slices.ContainsFunc(list, func(x T) bool { return !is(x) })
}

// valueRoomZero tells whether the room behind each list of a value's copy is zero still.
func valueRoomZero(v value.Value) bool {
	none := func(v value.Value) bool { return exact(v, value.Value{}) }
	return roomZero(v.Fields, func(f value.Field) bool { return f.Number == 0 && none(f.Value) }, func(f value.Field) bool { return valueRoomZero(f.Value) }) &&
		roomZero(v.List, none, valueRoomZero) &&
		roomZero(v.Pairs, func(p value.Pair) bool { return none(p.Key) && none(p.Value) }, func(p value.Pair) bool { return valueRoomZero(p.Key) && valueRoomZero(p.Value) })
}

// editRoomZero tells whether the room behind each list of an edit's copy is zero still.
func editRoomZero(e edit.Edit) bool {
	same := func(e edit.Edit) bool { return editExact(e, edit.Edit{}) }
	return valueRoomZero(e.Old) && valueRoomZero(e.New) &&
		roomZero(e.Fields, func(f edit.Field) bool { return f.Number == 0 && same(f.Edit) }, func(f edit.Field) bool { return editRoomZero(f.Edit) }) &&
		roomZero(e.Steps, func(s edit.Step) bool {
			return s.Kind == 0 && s.Count == 0 && exact(s.Value, value.Value{}) && same(s.Edit)
		}, func(s edit.Step) bool { return valueRoomZero(s.Value) && editRoomZero(s.Edit) }) &&
		roomZero(e.Keys, func(k edit.Key) bool { return exact(k.Key, value.Value{}) && same(k.Edit) }, func(k edit.Key) bool { return valueRoomZero(k.Key) && editRoomZero(k.Edit) })
}
