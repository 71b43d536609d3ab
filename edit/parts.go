package edit

import (
	"redline/api"
	"redline/value"
)

// Edits may lie deep within one another, and are great structs: their parts are asked by pointers, so that none is copied at each depth.

// mostKept is how many values a step keeps at most.
const mostKept = 1 << 20

func (e *Edit) right() bool {
	if !e.bare() {
		return false
	}
	switch e.Kind {
	case Same:
		return true
	case Swap:
		return e.swapRight()
	case Into:
		return e.restsRight() && (e.Rests || len(e.Fields) > 0) && rightRow(e.Fields, (*Field).right, (*Field).ahead)
	case Row:
		return has(e.Steps, (*Step).changes) && rightRow(e.Steps, (*Step).right, (*Step).mayBeAhead)
	case Book:
		return len(e.Keys) > 0 && rightRow(e.Keys, (*Key).right, (*Key).ahead)
	}
	return false
}

// bare tells whether there is nothing that an edit's kind doesn't have.
func (e *Edit) bare() bool {
	other := *e
	switch e.Kind {
	case Swap:
		other.Old, other.New = value.Value{}, value.Value{}
	case Into:
		other.Fields, other.Rests, other.RestOld, other.RestNew = nil, false, "", ""
	case Row:
		other.Steps = nil
	case Book:
		other.Keys = nil
	}
	return zero(other.Old) && zero(other.New) &&
		len(other.Fields) == 0 && !other.Rests && other.RestOld == "" && other.RestNew == "" &&
		len(other.Steps) == 0 && len(other.Keys) == 0
}

// zero tells whether a value is None, and has nothing else.
func zero(v value.Value) bool { return v.Kind == value.None && value.Right(v) }

func (e *Edit) swapRight() bool {
	return value.Right(e.Old) && value.Right(e.New) && !value.Same(e.Old, e.New)
}

// restsRight tells whether the Rests of an Into are right.
func (e *Edit) restsRight() bool {
	if e.Rests {
		return e.RestOld != e.RestNew
	}
	return e.RestOld == "" && e.RestNew == ""
}

// changes tells whether an edit is right, and isn't Same.
func (e *Edit) changes() bool { return e.Kind != Same && e.right() }

func (e *Edit) equal(f *Edit) bool {
	return e.plainlyEqual(f) && equalRow(e.Fields, f.Fields, (*Field).equal) && equalRow(e.Steps, f.Steps, (*Step).equal) && equalRow(e.Keys, f.Keys, (*Key).equal)
}

// plainlyEqual tells whether two are the same in what no other edits are in.
func (e *Edit) plainlyEqual(f *Edit) bool {
	return e.Kind == f.Kind && value.Same(e.Old, f.Old) && value.Same(e.New, f.New) &&
		e.Rests == f.Rests && e.RestOld == f.RestOld && e.RestNew == f.RestNew
}

func (e *Edit) size() int {
	if e.Kind == Same {
		return 0
	}
	return 1 + e.values() + sum(e.Fields, (*Field).size) + sum(e.Steps, (*Step).size) + sum(e.Keys, (*Key).size)
}

// values is how many values there are in what a Swap has.
func (e *Edit) values() int { return value.Size(e.Old) + value.Size(e.New) }

func (e *Edit) depth() int {
	if e.Kind == Same {
		return 0
	}
	return 1 + max(most(e.Fields, (*Field).depth), most(e.Steps, (*Step).depth), most(e.Keys, (*Key).depth))
}

func (f *Field) right() bool {
	return f.Number >= 1 && f.Number <= api.MaxNumber && f.Edit.changes()
}

func (f *Field) ahead(g *Field) bool { return f.Number < g.Number }

func (f *Field) equal(g *Field) bool { return f.Number == g.Number && f.Edit.equal(&g.Edit) }

func (f *Field) size() int { return f.Edit.size() }

func (f *Field) depth() int { return f.Edit.depth() }

func (k *Key) right() bool {
	return (k.Key.Kind == value.Number || k.Key.Kind == value.Text) && value.Right(k.Key) && k.Edit.changes()
}

// ahead tells whether a key is of the kind of another one, and comes ahead of it.
func (k *Key) ahead(l *Key) bool {
	return k.Key.Kind == l.Key.Kind && value.Compare(k.Key, l.Key) < 0
}

func (k *Key) equal(l *Key) bool { return value.Same(k.Key, l.Key) && k.Edit.equal(&l.Edit) }

func (k *Key) size() int { return value.Size(k.Key) + k.Edit.size() }

func (k *Key) depth() int { return k.Edit.depth() }
