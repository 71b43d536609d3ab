package path

import (
	"strconv"
	"strings"

	"redline/value"
)

// signs are the signs of base 16.
const signs = "0123456789abcdef"

// text is a right step's text.
func (s Step) text() string {
	number := strconv.Itoa(s.Number)
	switch s.Kind {
	case Field:
		return "." + number
	case Key:
		return "{" + keyText(s.Key) + "}"
	case Index:
		return "[" + number + "]"
	case Rest:
		return "~"
	case Span:
		return "[" + number + ":" + strconv.Itoa(s.To) + "]"
	}
	return "|" + number
}

func keyText(key value.Value) string {
	if key.Kind == value.Number {
		return strconv.FormatUint(key.Number, 10)
	}
	b := []byte{'\''}
	for i := range len(key.Text) {
		c := key.Text[i]
		b = append(b, signs[c>>4], signs[c&15])
	}
	return string(append(b, '\''))
}

// first is the step that a text begins with, and the text behind it; where there is none, a wrong step, and nothing behind it.
func first(text string) (Step, string) {
	within := text[1:]
	switch text[0] {
	case '.':
		return numbered(Field, within)
	case '|':
		return numbered(Oneof, within)
	case '~':
		return Step{Kind: Rest}, within
	case '{':
		key, behind, _ := strings.Cut(within, "}")
		return Step{Kind: Key, Key: keyOf(key)}, behind
	case '[':
		numbers, behind, _ := strings.Cut(within, "]")
		return listed(numbers), behind
	}
	return Step{}, ""
}

func numbered(kind int, text string) (Step, string) {
	behind := strings.TrimLeft(text, "0123456789")
	return Step{Kind: kind, Number: numberOf(text[:len(text)-len(behind)])}, behind
}

func listed(numbers string) Step {
	from, to, is := strings.Cut(numbers, ":")
	if !is {
		return Step{Kind: Index, Number: numberOf(from)}
	}
	return Step{Kind: Span, Number: numberOf(from), To: numberOf(to)}
}

// numberOf is the number that figures tell, or -1, which is no step's.
func numberOf(figures string) int {
	n, err := strconv.Atoi(figures)
	if err != nil {
		return -1
	}
	return n
}

// keyOf is the key that a text tells, or None, which is no step's.
func keyOf(text string) value.Value {
	if quoted, is := strings.CutPrefix(text, "'"); is {
		return value.Str(bytesOf(strings.TrimSuffix(quoted, "'")))
	}
	n, err := strconv.ParseUint(text, 10, 64)
	if err != nil {
		return value.Value{}
	}
	return value.Num(n)
}

// bytesOf is the bytes that signs of base 16 tell, two by two. Of other signs they are any bytes: these have another text.
func bytesOf(text string) string {
	var b []byte
	for i := 1; i < len(text); i += 2 {
		high, low := strings.IndexByte(signs, text[i-1]), strings.IndexByte(signs, text[i])
		b = append(b, byte(high<<4|low))
	}
	return string(b)
}
