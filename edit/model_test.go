package edit

import (
	"math"
	"slices"

	"redline/value"
)

// The models are the chapter's words, told in another way than the program tells them. Kinds stand as numbers here.

// modelHas is which parts the kinds of edits have.
type modelHas struct{ values, fields, rests, steps, keys bool }

var modelKinds = map[int]modelHas{
	0: {},
	1: {values: true},
	2: {fields: true, rests: true},
	3: {steps: true},
	4: {keys: true},
}

// modelZero tells whether a value is a zero one; lists without elements and nil are the same.
func modelZero(v value.Value) bool { return valueExact(v, value.Value{}) }

// modelClean tells whether an edit has nothing that its kind doesn't have (not asked of those within it).
func modelClean(e Edit) bool {
	has := modelKinds[e.Kind]
	rests := e.Rests || e.RestOld != "" || e.RestNew != ""
	return (has.values || modelZero(e.Old) && modelZero(e.New)) && (has.fields || len(e.Fields) == 0) &&
		(has.rests || !rests) && (has.steps || len(e.Steps) == 0) && (has.keys || len(e.Keys) == 0)
}

func modelRight(e Edit) bool {
	if _, is := modelKinds[e.Kind]; !is || !modelClean(e) {
		return false
	}
	for _, within := range modelWithin(e) {
		if within.Kind == 0 || !modelRight(within) {
			return false
		}
	}
	switch e.Kind {
	case 1:
		return value.Right(e.Old) && value.Right(e.New) && value.Compare(e.Old, e.New) != 0
	case 2:
		return modelIntoRight(e)
	case 3:
		return modelRowRight(e.Steps)
	case 4:
		return modelBookRight(e.Keys)
	}
	return true
}

// modelWithin are the edits in one that may not be Same: those of all parts but of steps that aren't a Change.
func modelWithin(e Edit) []Edit {
	var all []Edit
	for _, f := range e.Fields {
		all = append(all, f.Edit)
	}
	for _, s := range e.Steps {
		if s.Kind == 4 {
			all = append(all, s.Edit)
		}
	}
	for _, k := range e.Keys {
		all = append(all, k.Edit)
	}
	return all
}

func modelIntoRight(e Edit) bool {
	last := 0
	for _, f := range e.Fields {
		if f.Number <= last || f.Number > 536870911 {
			return false
		}
		last = f.Number
	}
	if e.Rests {
		return e.RestOld != e.RestNew
	}
	return e.RestOld == "" && e.RestNew == "" && len(e.Fields) > 0
}

// modelRowRight writes each step as a letter, and looks for letters that may not stand side by side.
func modelRowRight(steps []Step) bool {
	var letters []byte
	for _, s := range steps {
		letter := modelLetter(s)
		if letter == 0 || len(letters) > 0 && slices.Contains([]string{"kk", "pd"}, string([]byte{letters[len(letters)-1], letter})) {
			return false
		}
		letters = append(letters, letter)
	}
	return slices.ContainsFunc(letters, func(letter byte) bool { return letter != 'k' })
}

// modelLetter is that of a right step (an edit in it is looked at elsewhere), or 0.
func modelLetter(s Step) byte {
	count, none, same := s.Count == 0, modelZero(s.Value), modelExact(s.Edit, Edit{})
	single := (s.Value.Kind == 1 || s.Value.Kind == 2 || s.Value.Kind == 3) && value.Right(s.Value)
	switch {
	case s.Kind == 1 && s.Count > 0 && s.Count <= 1048576 && none && same:
		return 'k'
	case s.Kind == 2 && count && single && same:
		return 'd'
	case s.Kind == 3 && count && single && same:
		return 'p'
	case s.Kind == 4 && count && none:
		return 'c'
	}
	return 0
}

// modelBookRight holds the keys against those that are put in order, each one once.
func modelBookRight(keys []Key) bool {
	var numbers []uint64
	var texts []string
	for _, k := range keys {
		switch {
		case !value.Right(k.Key):
			return false
		case k.Key.Kind == 1:
			numbers = append(numbers, k.Key.Number)
		case k.Key.Kind == 2:
			texts = append(texts, k.Key.Text)
		default:
			return false
		}
	}
	if (len(numbers) > 0) == (len(texts) > 0) {
		return false
	}
	return slices.Equal(numbers, slices.Compact(slices.Sorted(slices.Values(numbers)))) &&
		slices.Equal(texts, slices.Compact(slices.Sorted(slices.Values(texts))))
}

// modelAll is all that is in an edit, in a row: numbers and texts as they are, values as values, and how long each list is.
func modelAll(e Edit) []any {
	all := []any{e.Kind, e.Old, e.New, e.Rests, e.RestOld, e.RestNew, len(e.Fields), len(e.Steps), len(e.Keys)}
	for _, f := range e.Fields {
		all = append(append(all, f.Number), modelAll(f.Edit)...)
	}
	for _, s := range e.Steps {
		all = append(append(all, s.Kind, s.Count, s.Value), modelAll(s.Edit)...)
	}
	for _, k := range e.Keys {
		all = append(append(all, k.Key), modelAll(k.Edit)...)
	}
	return all
}

// sameAll holds what is in two edits against one another, values by what tells whether they are the same.
func sameAll(a, b Edit, same func(v, w value.Value) bool) bool {
	return slices.EqualFunc(modelAll(a), modelAll(b), func(x, y any) bool {
		v, isX := x.(value.Value)
		w, isY := y.(value.Value)
		if isX || isY {
			return isX && isY && same(v, w)
		}
		return x == y
	})
}

func modelEqual(a, b Edit) bool {
	return sameAll(a, b, func(v, w value.Value) bool { return value.Compare(v, w) == 0 })
}

// modelExact tells whether two are so all over, also values in what their kinds don't have.
func modelExact(a, b Edit) bool { return sameAll(a, b, valueExact) }

func valueExact(a, b value.Value) bool {
	return a.Kind == b.Kind && a.Number == b.Number && a.Text == b.Text && a.Rest == b.Rest &&
		slices.EqualFunc(a.Fields, b.Fields, func(f, g value.Field) bool { return f.Number == g.Number && valueExact(f.Value, g.Value) }) &&
		slices.EqualFunc(a.List, b.List, valueExact) &&
		slices.EqualFunc(a.Pairs, b.Pairs, func(p, q value.Pair) bool { return valueExact(p.Key, q.Key) && valueExact(p.Value, q.Value) })
}

// modelSizeDepth goes through all edits that lie in one, depth by depth.
func modelSizeDepth(e Edit) (size, depth int) {
	for at := []Edit{e}; ; depth++ {
		at = slices.DeleteFunc(at, func(e Edit) bool { return e.Kind == 0 })
		if len(at) == 0 {
			return size, depth
		}
		var within []Edit
		for _, e := range at {
			size += 1 + value.Size(e.Old) + value.Size(e.New)
			for _, f := range e.Fields {
				within = append(within, f.Edit)
			}
			for _, s := range e.Steps {
				size += 1 + value.Size(s.Value)
				within = append(within, s.Edit)
			}
			for _, k := range e.Keys {
				size += value.Size(k.Key)
				within = append(within, k.Edit)
			}
		}
		at = within
	}
}

// modelTidy changes the first place that isn't tidy, till there is none.
func modelTidy(steps []Step) []Step {
	tidy := slices.Clone(steps)
	for i := range tidy {
		if tidy[i].Kind == 4 && tidy[i].Edit.Kind == 0 {
			tidy[i].Kind, tidy[i].Count = 1, 1
		}
		if tidy[i].Kind == 1 {
			tidy[i] = Step{Kind: 1, Count: tidy[i].Count}
		}
	}
	for i := 0; i < len(tidy); {
		switch {
		case tidy[i].Kind < 1 || tidy[i].Kind > 4 || tidy[i].Kind == 1 && tidy[i].Count < 1:
			tidy = slices.Delete(tidy, i, i+1)
		case i > 0 && tidy[i].Kind == 1 && tidy[i-1].Kind == 1:
			tidy[i-1].Count += tidy[i].Count
			tidy = slices.Delete(tidy, i, i+1)
		case i > 0 && tidy[i].Kind == 2 && tidy[i-1].Kind == 3:
			tidy[i-1], tidy[i] = tidy[i], tidy[i-1]
		default:
			i++
			continue
		}
		i = max(i-1, 0)
	}
	return tidy
}

// stepsExact tells whether steps are so all over.
func stepsExact(a, b []Step) bool {
	return modelExact(Edit{Steps: a}, Edit{Steps: b})
}

// valueCopy shares nothing with a value: empty lists become nil, and nil ones empty, which is the same.
func valueCopy(v value.Value) value.Value {
	c := value.Value{Kind: v.Kind, Number: v.Number, Text: v.Text, Rest: v.Rest, Fields: emptyOf(v.Fields), List: emptyOf(v.List), Pairs: emptyOf(v.Pairs)}
	for _, f := range v.Fields {
		c.Fields = append(c.Fields, value.Field{Number: f.Number, Value: valueCopy(f.Value)})
	}
	for _, x := range v.List {
		c.List = append(c.List, valueCopy(x))
	}
	for _, p := range v.Pairs {
		c.Pairs = append(c.Pairs, value.Pair{Key: valueCopy(p.Key), Value: valueCopy(p.Value)})
	}
	return c
}

// emptyOf is a list without elements: nil, if the one that is given isn't nil.
func emptyOf[T any](list []T) []T {
	if list == nil {
		return []T{}
	}
	return nil
}

// modelCopy shares nothing with an edit: empty lists become nil, and nil ones empty, which is the same.
func modelCopy(e Edit) Edit {
	c := e
	c.Old, c.New = valueCopy(e.Old), valueCopy(e.New)
	c.Fields, c.Steps, c.Keys = emptyOf(e.Fields), stepsCopy(e.Steps), emptyOf(e.Keys)
	for _, f := range e.Fields {
		c.Fields = append(c.Fields, Field{f.Number, modelCopy(f.Edit)})
	}
	for _, k := range e.Keys {
		c.Keys = append(c.Keys, Key{valueCopy(k.Key), modelCopy(k.Edit)})
	}
	return c
}

func stepsCopy(steps []Step) []Step {
	c := emptyOf(steps)
	for _, s := range steps {
		c = append(c, Step{s.Kind, s.Count, valueCopy(s.Value), modelCopy(s.Edit)})
	}
	return c
}

// wildNumbers are numbers of which few mean anything.
var wildNumbers = []int{math.MinInt, -1, 0, 1, 2, 3, 4, 5, 6, 1 << 20, 1<<20 + 1, 1<<29 - 1, 1 << 29, math.MaxInt}
