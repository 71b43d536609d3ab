package path

import (
	"encoding/hex"
	"fmt"
	"regexp"
	"strconv"
	"strings"

	"redline/value"
)

// The models are the chapter's words, told in another way than the program tells them. Kinds stand as numbers here.

func modelRight(p Path) bool {
	for _, s := range p {
		if !modelStepRight(s) {
			return false
		}
	}
	return true
}

func modelStepRight(s Step) bool {
	noKey := s.Key.Kind == 0 && value.Right(s.Key)
	numbered := s.Number >= 0 && s.Number <= 1073741824
	switch s.Kind {
	case 1, 3, 6:
		return numbered && s.To == 0 && noKey
	case 2:
		number := s.Key.Kind == 1 && value.Right(s.Key)
		text := s.Key.Kind == 2 && value.Right(s.Key) && len(s.Key.Text) < 4097
		return s.Number == 0 && s.To == 0 && (number || text)
	case 4:
		return s.Number == 0 && s.To == 0 && noKey
	case 5:
		return numbered && s.Number <= s.To && s.To < 1073741825 && noKey
	}
	return false
}

func modelText(p Path) string {
	if !modelRight(p) {
		return ""
	}
	text := ""
	for _, s := range p {
		switch s.Kind {
		case 1:
			text += fmt.Sprintf(".%d", s.Number)
		case 2:
			if s.Key.Kind == 1 {
				text += fmt.Sprintf("{%d}", s.Key.Number)
			} else {
				text += fmt.Sprintf("{'%x'}", s.Key.Text)
			}
		case 3:
			text += fmt.Sprintf("[%d]", s.Number)
		case 4:
			text += "~"
		case 5:
			text += fmt.Sprintf("[%d:%d]", s.Number, s.To)
		case 6:
			text += fmt.Sprintf("|%d", s.Number)
		}
	}
	return text
}

const modelFigures = `(0|[1-9][0-9]{0,19})`

var modelForms = map[int]*regexp.Regexp{
	1: regexp.MustCompile(`^\.` + modelFigures),
	2: regexp.MustCompile(`^\{(?:` + modelFigures + `|('(?:[0-9a-f][0-9a-f])*'))\}`),
	3: regexp.MustCompile(`^\[` + modelFigures + `\]`),
	4: regexp.MustCompile(`^~`),
	5: regexp.MustCompile(`^\[` + modelFigures + `:` + modelFigures + `\]`),
	6: regexp.MustCompile(`^\|` + modelFigures),
}

// modelParse is the path of a text, and whether it is a right one's.
func modelParse(text string) (Path, bool) {
	var p Path
	for text != "" {
		s, n := modelFirst(text)
		if n == 0 {
			return nil, false
		}
		p, text = append(p, s), text[n:]
	}
	return p, modelRight(p)
}

// modelFirst is the step at the beginning of a text, and how many bytes it has there.
func modelFirst(text string) (Step, int) {
	for kind, form := range modelForms {
		found := form.FindStringSubmatch(text)
		if found == nil {
			continue
		}
		s := Step{Kind: kind}
		switch {
		case kind == 2 && found[2] != "":
			b, _ := hex.DecodeString(strings.Trim(found[2], "'"))
			s.Key = value.Value{Kind: 2, Text: string(b)}
		case kind == 2:
			n, err := strconv.ParseUint(found[1], 10, 64)
			if err != nil {
				return Step{}, 0
			}
			s.Key = value.Value{Kind: 1, Number: n}
		case kind == 5:
			s.Number, s.To = modelNumber(found[1]), modelNumber(found[2])
		case kind != 4:
			s.Number = modelNumber(found[1])
		}
		return s, len(found[0])
	}
	return Step{}, 0
}

func modelNumber(figures string) int {
	n, err := strconv.Atoi(figures)
	if err != nil {
		return -1
	}
	return n
}

// modelGet goes through all that stands in a value.
func modelGet(v value.Value, p Path) (value.Value, bool) {
	if len(p) == 0 {
		return v, v.Kind != 0
	}
	s, left := p[0], p[1:]
	switch [2]int{s.Kind, v.Kind} {
	case [2]int{1, 3}:
		for _, f := range v.Fields {
			if f.Number == s.Number {
				return modelGet(f.Value, left)
			}
		}
	case [2]int{2, 5}:
		for _, x := range v.Pairs {
			if value.Same(x.Key, s.Key) {
				return modelGet(x.Value, left)
			}
		}
	case [2]int{3, 4}:
		for i, x := range v.List {
			if i == s.Number {
				return modelGet(x, left)
			}
		}
	case [2]int{4, 3}:
		return modelGet(value.Value{Kind: 2, Text: v.Rest}, left)
	case [2]int{5, 4}:
		return modelSpan(v, s, left)
	}
	return value.Value{}, false
}

func modelSpan(v value.Value, s Step, left Path) (value.Value, bool) {
	within := value.Value{Kind: 4}
	for i, x := range v.List {
		if i >= s.Number && i < s.To {
			within.List = append(within.List, x)
		}
	}
	switch {
	case s.Number < 0 || s.To < s.Number || s.To > len(v.List):
		return value.Value{}, false
	case len(within.List) == 0:
		return value.Value{}, len(left) == 0
	}
	return modelGet(within, left)
}

// modelAll puts each step ahead of the paths from there on.
func modelAll(v value.Value) []Path {
	if v.Kind == 0 {
		return nil
	}
	paths := []Path{{}}
	ahead := func(s Step, part value.Value) {
		for _, p := range modelAll(part) {
			paths = append(paths, append(Path{s}, p...))
		}
	}
	switch v.Kind {
	case 3:
		for _, f := range v.Fields {
			ahead(Step{Kind: 1, Number: f.Number}, f.Value)
		}
	case 4:
		for i, x := range v.List {
			ahead(Step{Kind: 3, Number: i}, x)
		}
	case 5:
		for _, p := range v.Pairs {
			ahead(Step{Kind: 2, Key: p.Key}, p.Value)
		}
	}
	return paths
}

func modelSame(a, b Path) bool { return len(a) == len(b) && modelBegins(a, b) }

func modelBegins(a, b Path) bool {
	for i, s := range a {
		if i >= len(b) || s.Kind != b[i].Kind || s.Number != b[i].Number || s.To != b[i].To || value.Compare(s.Key, b[i].Key) != 0 {
			return false
		}
	}
	return true
}
