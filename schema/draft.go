package schema

import (
	"slices"
	"strings"

	"redline/api"
	"redline/kinds"
	"redline/syntax"
)

// The numbers that no field has, though they are within the bounds.
const (
	firstOfNone = 19000
	lastOfNone  = 19999
)

// What layer 8's Packed says.
const (
	packedUntold = 0
	packedFalse  = 2
)

// draft is a field of a message that is to be checked.
type draft struct {
	of           syntax.Message
	at           int // how many fields of the message stand ahead
	from         syntax.Field
	kind, number int  // the kind and the type's number that the field's type means
	known        bool // whether it means any
}

// rule is what must hold of a field, and the error, if it doesn't.
type rule struct {
	holds func(d *draft) bool
	err   error
}

// rules is all that must hold of a field, in the order in which it is asked.
func rules() []rule {
	return []rule{
		{(*draft).hasRoom, api.ErrLong},
		{(*draft).inBounds, api.ErrRange},
		{(*draft).isNew, api.ErrDup},
		{(*draft).isFree, api.ErrForm},
		{(*draft).hasType, api.ErrName},
		{(*draft).mapKeyFits, api.ErrKind},
		{(*draft).packedFits, api.ErrKind},
		{(*draft).keyFits, api.ErrKind},
	}
}

// check is the fault of the first rule that doesn't hold.
func (d *draft) check() error {
	for _, r := range rules() {
		if !r.holds(d) {
			return fault(d.from.Line, d.from.Col, r.err)
		}
	}
	return nil
}

// field is the field, if all rules hold: but for its key, which other types tell.
func (d *draft) field() Field {
	f := Field{
		// Cloned, as an answer shares no memory with what was given.
		Name:   strings.Clone(d.from.Name),
		Number: d.from.Number,
		Label:  d.from.Label,
		Kind:   d.kind,
		Type:   d.number,
		Packed: d.mayPack() && d.from.Packed != packedFalse,
		Oneof:  d.from.Oneof,
	}
	if d.isMap() {
		f.MapKey, _ = kinds.Of(d.from.MapKey)
	}
	return f
}

func (d *draft) hasRoom() bool { return d.at < api.MaxParts }

func (d *draft) inBounds() bool {
	n := d.from.Number
	return n >= 1 && n <= api.MaxNumber && (n < firstOfNone || n > lastOfNone)
}

// isNew tells whether no field ahead has its name, or its number.
func (d *draft) isNew() bool {
	return !slices.ContainsFunc(d.of.Fields[:d.at], func(f syntax.Field) bool {
		return f.Name == d.from.Name || f.Number == d.from.Number
	})
}

// isFree tells whether neither its number nor its name is reserved.
func (d *draft) isFree() bool {
	within := func(r syntax.Range) bool { return r.From <= d.from.Number && d.from.Number <= r.To }
	return !slices.ContainsFunc(d.of.Reserved, within) && !slices.Contains(d.of.Names, d.from.Name)
}

func (d *draft) hasType() bool { return d.known }

func (d *draft) mapKeyFits() bool {
	kind, is := kinds.Of(d.from.MapKey)
	return !d.isMap() || is && kinds.Keys(kind)
}

func (d *draft) packedFits() bool { return d.from.Packed == packedUntold || d.mayPack() }

func (d *draft) keyFits() bool {
	return d.from.Key == "" || d.from.Label == syntax.Repeated && d.kind == kinds.Message
}

func (d *draft) isMap() bool { return d.from.Label == syntax.Map }

func (d *draft) mayPack() bool { return d.from.Label == syntax.Repeated && kinds.Packs(d.kind) }
