package apply

import (
	"cmp"

	"redline/api"
	"redline/edit"
	"redline/value"
)

// draft is a right value that becomes what comes of it, by edits that are right. Edits and values may lie deep within one another, and are great structs: so a value is copied with the list that it lies in, and becomes there what comes of it, not handed up through each depth.
type draft value.Value

// do does an edit. What a draft is behind an error means nothing.
func (d *draft) do(e *edit.Edit) error { return ofEdit(e.Kind)(d, e) }

// ofEdit is what does an edit of a kind.
func ofEdit(kind int) func(d *draft, e *edit.Edit) error {
	switch kind {
	case edit.Swap:
		return (*draft).swap
	case edit.Into:
		return (*draft).into
	case edit.Row:
		return (*draft).row
	case edit.Book:
		return (*draft).book
	}
	return (*draft).same
}

func (d *draft) same(e *edit.Edit) error { return nil }

func (d *draft) swap(e *edit.Edit) error {
	if !value.Same(value.Value(*d), e.Old) {
		return api.ErrClash
	}
	*d = draft(e.New)
	return nil
}

func (d *draft) into(e *edit.Edit) error {
	if d.Kind != value.Message {
		return api.ErrClash
	}
	fields, err := changed(d.Fields, e.Fields, byNumber, changeField)
	if err != nil {
		return err
	}
	d.Fields = fields
	return d.rest(e)
}

func (d *draft) rest(e *edit.Edit) error {
	if !e.Rests {
		return nil
	}
	if d.Rest != e.RestOld {
		return api.ErrClash
	}
	d.Rest = e.RestNew
	return nil
}

func (d *draft) row(e *edit.Edit) error {
	if !d.isOrNone(value.List) {
		return api.ErrClash
	}
	list, err := walked(d.List, e.Steps)
	if err != nil {
		return err
	}
	*d = draft{}
	if len(list) > 0 {
		d.Kind, d.List = value.List, list
	}
	return nil
}

func (d *draft) book(e *edit.Edit) error {
	if !d.isOrNone(value.Map) || !d.mayHave(e.Keys) {
		return api.ErrClash
	}
	pairs, err := changed(d.Pairs, e.Keys, byKey, changePair)
	if err != nil {
		return err
	}
	*d = draft{}
	if len(pairs) > 0 {
		d.Kind, d.Pairs = value.Map, pairs
	}
	return nil
}

func (d *draft) isOrNone(kind int) bool { return d.Kind == kind || d.Kind == value.None }

// mayHave tells whether keys are of the kind of those that are there. All of a right edit's keys are of one kind: so the pairs that come and go ahead of one key don't say otherwise of it than of the first one.
func (d *draft) mayHave(keys []edit.Key) bool {
	return len(d.Pairs) == 0 || d.Pairs[0].Key.Kind == keys[0].Key.Kind
}

func byNumber(f value.Field, c *edit.Field) int { return cmp.Compare(f.Number, c.Number) }

// changeField does a field's edit. A field that isn't there yet has no number either.
func changeField(f *value.Field, c *edit.Field) (stands bool, err error) {
	f.Number = c.Number
	err = (*draft)(&f.Value).do(&c.Edit)
	return f.Value.Kind != value.None, err
}

func byKey(p value.Pair, c *edit.Key) int { return value.Compare(p.Key, c.Key) }

// changePair does a key's edit. A pair that isn't there yet has no key either.
func changePair(p *value.Pair, c *edit.Key) (stands bool, err error) {
	p.Key = c.Key
	if err := (*draft)(&p.Value).do(&c.Edit); err != nil {
		return false, err
	}
	if p.Value.Kind == value.None {
		return false, nil
	}
	return true, single(p.Value)
}

// single asks whether a value is one that may stand in a list or a map.
func single(v value.Value) error {
	if v.Kind < value.Number || v.Kind > value.Message {
		return api.ErrKind
	}
	return nil
}
