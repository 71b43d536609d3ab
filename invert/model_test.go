package invert

import (
	"slices"

	"redline/edit"
	"redline/value"
)

// The models are the chapter's words, told in two other ways than the program tells them. Kinds stand as numbers here.

// modelOf puts a right edit's other way together, part by part.
func modelOf(e edit.Edit) edit.Edit {
	switch e.Kind {
	case 1:
		return edit.Edit{Kind: 1, Old: e.New, New: e.Old}
	case 2:
		other := edit.Edit{Kind: 2, Rests: e.Rests, RestOld: e.RestNew, RestNew: e.RestOld}
		for _, f := range e.Fields {
			other.Fields = append(other.Fields, edit.Field{Number: f.Number, Edit: modelOf(f.Edit)})
		}
		return other
	case 3:
		return edit.Edit{Kind: 3, Steps: modelSteps(e.Steps)}
	case 4:
		other := edit.Edit{Kind: 4}
		for _, k := range e.Keys {
			other.Keys = append(other.Keys, edit.Key{Key: k.Key, Edit: modelOf(k.Edit)})
		}
		return other
	}
	return edit.Edit{}
}

// modelSteps goes from each Keep and each Change to the next one: what is put between them is dropped, ahead of what was dropped there.
func modelSteps(steps []edit.Step) []edit.Step {
	var other []edit.Step
	for len(steps) > 0 {
		n := slices.IndexFunc(steps, func(s edit.Step) bool { return s.Kind == 1 || s.Kind == 4 })
		if n < 0 {
			n = len(steps)
		}
		for _, kind := range []int{3, 2} {
			for _, s := range steps[:n] {
				if s.Kind == kind {
					other = append(other, edit.Step{Kind: 5 - kind, Value: s.Value})
				}
			}
		}
		if steps = steps[n:]; len(steps) == 0 {
			break
		}
		if steps[0].Kind == 1 {
			other = append(other, edit.Step{Kind: 1, Count: steps[0].Count})
		} else {
			other = append(other, edit.Step{Kind: 4, Edit: modelOf(steps[0].Edit)})
		}
		steps = steps[1:]
	}
	return other
}

// side is all that an edit tells of a value ahead of it (side 0), or of what comes of it (side 1), in a row. The other way tells the same of each side as the edit of the other one.
func side(e edit.Edit, of int) []any {
	all := []any{"edit", e.Kind, e.Rests, [2]string{e.RestOld, e.RestNew}[of], [2]value.Value{e.Old, e.New}[of]}
	for _, f := range e.Fields {
		all = append(append(all, "field", f.Number), side(f.Edit, of)...)
	}
	for _, s := range e.Steps {
		switch s.Kind {
		case 1:
			all = append(all, "kept", s.Count)
		case 2 + of: // dropped of the first side, and put on the other one
			all = append(all, "value", s.Value)
		case 4:
			all = append(append(all, "changed"), side(s.Edit, of)...)
		}
	}
	for _, k := range e.Keys {
		all = append(append(all, "key", k.Key), side(k.Edit, of)...)
	}
	return append(all, "end")
}

// sameSide tells whether two tell the same.
func sameSide(a, b []any) bool {
	return slices.EqualFunc(a, b, func(x, y any) bool {
		v, isX := x.(value.Value)
		w, isY := y.(value.Value)
		if isX || isY {
			return isX && isY && valueExact(v, w)
		}
		return x == y
	})
}

// exact tells whether two edits are so all over, also values in what their kinds don't have.
func exact(a, b edit.Edit) bool {
	return a.Kind == b.Kind && valueExact(a.Old, b.Old) && valueExact(a.New, b.New) &&
		a.Rests == b.Rests && a.RestOld == b.RestOld && a.RestNew == b.RestNew &&
		slices.EqualFunc(a.Fields, b.Fields, func(f, g edit.Field) bool { return f.Number == g.Number && exact(f.Edit, g.Edit) }) &&
		stepsExact(a.Steps, b.Steps) &&
		slices.EqualFunc(a.Keys, b.Keys, func(k, l edit.Key) bool { return valueExact(k.Key, l.Key) && exact(k.Edit, l.Edit) })
}

func stepsExact(a, b []edit.Step) bool {
	return slices.EqualFunc(a, b, func(s, t edit.Step) bool {
		return s.Kind == t.Kind && s.Count == t.Count && valueExact(s.Value, t.Value) && exact(s.Edit, t.Edit)
	})
}

func valueExact(a, b value.Value) bool {
	return a.Kind == b.Kind && a.Number == b.Number && a.Text == b.Text && a.Rest == b.Rest &&
		slices.EqualFunc(a.Fields, b.Fields, func(f, g value.Field) bool { return f.Number == g.Number && valueExact(f.Value, g.Value) }) &&
		slices.EqualFunc(a.List, b.List, valueExact) &&
		slices.EqualFunc(a.Pairs, b.Pairs, func(p, q value.Pair) bool { return valueExact(p.Key, q.Key) && valueExact(p.Value, q.Value) })
}

// valueCopy shares nothing with a value: empty lists become nil, and nil ones empty, which is the same.
func valueCopy(v value.Value) value.Value {
	c := value.Value{Kind: v.Kind, Number: v.Number, Text: v.Text, Rest: v.Rest, Fields: emptyOf(v.Fields), List: emptyOf(v.List), Pairs: emptyOf(v.Pairs)}
	for _, f := range v.Fields {
		c.Fields = append(c.Fields, value.Field{Number: f.Number, Value: valueCopy(f.Value)})
	}
	for _, x := range v.List {
		c.List = append(c.List, valueCopy(x))
	}
	for _, p := range v.Pairs {
		c.Pairs = append(c.Pairs, value.Pair{Key: valueCopy(p.Key), Value: valueCopy(p.Value)})
	}
	return c
}

// emptyOf is a list without elements: nil, if the one that is given isn't nil.
func emptyOf[T any](list []T) []T {
	if list == nil {
		return []T{}
	}
	return nil
}

// editCopy shares nothing with an edit: empty lists become nil, and nil ones empty, which is the same.
func editCopy(e edit.Edit) edit.Edit {
	c := e
	c.Old, c.New = valueCopy(e.Old), valueCopy(e.New)
	c.Fields, c.Steps, c.Keys = emptyOf(e.Fields), stepsCopy(e.Steps), emptyOf(e.Keys)
	for _, f := range e.Fields {
		c.Fields = append(c.Fields, edit.Field{Number: f.Number, Edit: editCopy(f.Edit)})
	}
	for _, k := range e.Keys {
		c.Keys = append(c.Keys, edit.Key{Key: valueCopy(k.Key), Edit: editCopy(k.Edit)})
	}
	return c
}

func stepsCopy(steps []edit.Step) []edit.Step {
	c := emptyOf(steps)
	for _, s := range steps {
		c = append(c, edit.Step{Kind: s.Kind, Count: s.Count, Value: valueCopy(s.Value), Edit: editCopy(s.Edit)})
	}
	return c
}
