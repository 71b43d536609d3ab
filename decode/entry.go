package decode

import (
	"slices"

	"redline/kinds"
	"redline/record"
	"redline/schema"
	"redline/syntax"
	"redline/tag"
	"redline/value"
)

// The fields of a map's entries.
const (
	keyNumber   = 1
	valueNumber = 2
)

// entry is a pair that is being read: its draft has the two fields alone, and lies no deeper than the message around it.
type entry struct {
	draft  *draft
	fields []schema.Field
}

// newEntry is a pair of a map that stands in a draft, of which nothing is said yet.
func newEntry(around *draft, f schema.Field) entry {
	return entry{
		draft: newDraft(around.reader, around.message, around.depth, value.Value{}),
		// Optional, so that a 0 or an empty text stays.
		fields: []schema.Field{
			{Number: keyNumber, Label: syntax.Optional, Kind: f.MapKey},
			{Number: valueNumber, Label: syntax.Optional, Kind: f.Kind, Type: f.Type},
		},
	}
}

// take reads one record: others than the key's and the value's are passed over.
func (e entry) take(r record.Record) error {
	for _, f := range e.fields {
		if r.Tag == (tag.Tag{Number: f.Number, Wire: kinds.Wire(f.Kind)}) {
			return e.draft.single(f, r)
		}
	}
	return nil
}

// complete reads, for what no record has said, one that says nothing: a 0, an empty text, or a message without fields and Rest.
func (e entry) complete() error {
	for _, f := range e.fields {
		if _, is := e.draft.parts[f.Number]; is {
			continue
		}
		if err := e.draft.single(f, record.Record{}); err != nil {
			return err
		}
	}
	return nil
}

func (e entry) pair() value.Pair {
	return value.Pair{Key: e.draft.parts[keyNumber].done(), Value: e.draft.parts[valueNumber].done()}
}

// lastOfKeys is a list anew, of the last pair of each key, by their keys.
func lastOfKeys(pairs []value.Pair) []value.Pair {
	byKey := func(p, q value.Pair) int { return value.Compare(p.Key, q.Key) }
	sorted := slices.SortedStableFunc(slices.Values(pairs), byKey)
	var last []value.Pair
	for i, p := range sorted {
		if i+1 == len(sorted) || byKey(p, sorted[i+1]) != 0 {
			last = append(last, p)
		}
	}
	return last
}
