package path

import (
	"redline/api"
	"redline/value"
)

// most is the greatest number of a step.
const most = 1 << 30

func (s Step) same(t Step) bool {
	return s.Kind == t.Kind && s.Number == t.Number && s.To == t.To && value.Same(s.Key, t.Key)
}

func (s Step) wrong() bool {
	return s.Kind < Field || s.Kind > Oneof || !s.numberRight() || !s.toRight() || !s.keyRight()
}

func (s Step) numberRight() bool {
	if s.Kind == Key || s.Kind == Rest {
		return s.Number == 0
	}
	return s.Number >= 0 && s.Number <= most
}

func (s Step) toRight() bool {
	if s.Kind == Span {
		return s.To >= s.Number && s.To <= most
	}
	return s.To == 0
}

func (s Step) keyRight() bool {
	return s.keyFits() && value.Right(s.Key)
}

func (s Step) keyFits() bool {
	if s.Kind != Key {
		return s.Key.Kind == value.None
	}
	return s.Key.Kind == value.Number || s.Key.Kind == value.Text && len(s.Key.Text) <= api.MaxBytes
}
