package apply

import (
	"slices"

	"redline/api"
	"redline/edit"
	"redline/value"
)

// changed is a list that rises, anew, with each change (they rise too) done to the member in its place, or to a zero one, if there is none. What doesn't stand there any more is left out.
func changed[T, C any](list []T, changes []C, order func(x T, c *C) int, do func(x *T, c *C) (stands bool, err error)) ([]T, error) {
	made := make([]T, 0, len(list)+len(changes))
	for i := range changes {
		at, is := slices.BinarySearchFunc(list, &changes[i], order)
		made, list = append(made, list[:at]...), list[at:]
		var x T
		if is {
			x, list = list[0], list[1:]
		}
		made = append(made, x)
		last := len(made) - 1
		stands, err := do(&made[last], &changes[i])
		if err != nil {
			return nil, err
		}
		if !stands {
			made = made[:last]
		}
	}
	return append(made, list...), nil
}

// walk is a list that is gone through step by step.
type walk struct {
	// left is what no step has passed yet.
	left []value.Value
	// made is what has come of the steps.
	made []value.Value
}

// walked is a list anew, with steps done.
func walked(list []value.Value, steps []edit.Step) ([]value.Value, error) {
	w := &walk{left: list, made: make([]value.Value, 0, len(list)+len(steps))}
	for i := range steps {
		if err := ofStep(steps[i].Kind)(w, &steps[i]); err != nil {
			return nil, err
		}
	}
	if len(w.left) > 0 {
		return nil, api.ErrClash
	}
	return w.made, nil
}

// ofStep is what does a step of a kind.
func ofStep(kind int) func(w *walk, s *edit.Step) error {
	switch kind {
	case edit.Keep:
		return (*walk).keep
	case edit.Drop:
		return (*walk).drop
	case edit.Put:
		return (*walk).put
	}
	return (*walk).change
}

func (w *walk) keep(s *edit.Step) error {
	if s.Count > len(w.left) {
		return api.ErrClash
	}
	w.made, w.left = append(w.made, w.left[:s.Count]...), w.left[s.Count:]
	return nil
}

func (w *walk) drop(s *edit.Step) error {
	if len(w.left) == 0 || !value.Same(w.left[0], s.Value) {
		return api.ErrClash
	}
	w.left = w.left[1:]
	return nil
}

func (w *walk) put(s *edit.Step) error {
	w.made = append(w.made, s.Value)
	return nil
}

func (w *walk) change(s *edit.Step) error {
	if len(w.left) == 0 {
		return api.ErrClash
	}
	w.made, w.left = append(w.made, w.left[0]), w.left[1:]
	last := &w.made[len(w.made)-1]
	if err := (*draft)(last).do(&s.Edit); err != nil {
		return err
	}
	return single(*last)
}
