package edit

import "redline/value"

func (s *Step) right() bool {
	if !s.bare() {
		return false
	}
	switch s.Kind {
	case Keep:
		return s.Count >= 1 && s.Count <= mostKept
	case Drop, Put:
		return s.Value.Kind >= value.Number && s.Value.Kind <= value.Message && value.Right(s.Value)
	case Change:
		return s.Edit.changes()
	}
	return false
}

// bare tells whether there is nothing that a step's kind doesn't have.
func (s *Step) bare() bool {
	other := *s
	switch s.Kind {
	case Keep:
		other.Count = 0
	case Drop, Put:
		other.Value = value.Value{}
	case Change:
		other.Edit = Edit{}
	}
	return other.Count == 0 && zero(other.Value) && other.Edit.Kind == Same && other.Edit.bare()
}

// changes tells whether a step isn't a Keep.
func (s *Step) changes() bool { return s.Kind != Keep }

// mayBeAhead tells whether a step may stand directly ahead of the next one.
func (s *Step) mayBeAhead(next *Step) bool {
	switch s.Kind {
	case Keep:
		return next.Kind != Keep
	case Put:
		return next.Kind != Drop
	}
	return true
}

func (s *Step) equal(t *Step) bool {
	return s.Kind == t.Kind && s.Count == t.Count && value.Same(s.Value, t.Value) && s.Edit.equal(&t.Edit)
}

func (s *Step) size() int { return 1 + value.Size(s.Value) + s.Edit.size() }

func (s *Step) depth() int { return s.Edit.depth() }

// plain is a step as what it says: a Change by Same keeps one value, and a Keep of none is no step (of the kind 0).
func plain(s Step) Step {
	switch {
	case s.Kind == Change && s.Edit.Kind == Same:
		return Step{Kind: Keep, Count: 1}
	case s.Kind == Keep && s.Count < 1:
		return Step{}
	}
	return s
}

// keep is steps with so many values kept behind them.
func keep(steps []Step, count int) []Step {
	if last := len(steps) - 1; last >= 0 && steps[last].Kind == Keep {
		steps[last].Count += count
		return steps
	}
	return append(steps, Step{Kind: Keep, Count: count})
}
