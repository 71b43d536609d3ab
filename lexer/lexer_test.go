package lexer

import (
	"errors"
	"fmt"
	"math"
	"math/big"
	"regexp"
	"slices"
	"strings"
	"testing"
	"unsafe"

	"redline/api"
)

// The chapter's words, as patterns that stand at the beginning of what is left of a text.
var (
	modelGap    = regexp.MustCompile(`^(?s:[ \t\r\n]|//[^\n]*|/\*.*?\*/)`)
	modelWord   = regexp.MustCompile(`^[a-zA-Z_][a-zA-Z_0-9]*`)
	modelInt    = regexp.MustCompile(`^[0-9][a-zA-Z_0-9]*`)
	modelText   = regexp.MustCompile(`^(?s:"[^"]*"|'[^']*')`)
	modelSign   = regexp.MustCompile(`^[{}\[\]<>();=,.\-]`)
	modelNumber = regexp.MustCompile(`^(0|[1-9][0-9]*|0[xX][0-9a-fA-F]+|0[0-7]+)$`)
)

// modelPlace is the place of the byte at which so many others are ahead.
func modelPlace(text string, at int) (line, col int) {
	ahead := text[:at]
	return 1 + strings.Count(ahead, "\n"), at - strings.LastIndex(ahead, "\n")
}

// modelFirst is the token with which a text begins that doesn't begin with a gap, and how many bytes it has.
func modelFirst(s string) (Token, int, error) {
	if word := modelWord.FindString(s); word != "" {
		if len(word) > 40 {
			return Token{}, 0, api.ErrLong
		}
		return Token{Kind: Word, Text: word}, len(word), nil
	}
	if figures := modelInt.FindString(s); figures != "" {
		if !modelNumber.MatchString(figures) {
			return Token{}, 0, api.ErrForm
		}
		n, _ := new(big.Int).SetString(figures, 0)
		if n.Cmp(big.NewInt(math.MaxInt32)) > 0 {
			return Token{}, 0, api.ErrRange
		}
		return Token{Kind: Int, Text: figures, Number: int(n.Int64())}, len(figures), nil
	}
	if quoted := modelText.FindString(s); quoted != "" {
		says := strings.Trim(quoted, quoted[:1])
		if strings.Contains(says, `\`) || strings.Contains(says, "\n") {
			return Token{}, 0, api.ErrForm
		}
		return Token{Kind: Text, Text: says}, len(quoted), nil
	}
	if sign := modelSign.FindString(s); sign != "" {
		return Token{Kind: Sign, Text: sign}, 1, nil
	}
	return Token{}, 0, api.ErrForm
}

// modelSplit is Split in the chapter's words: beside the tokens, what each has in the text, quotes and all.
func modelSplit(text string) (list []Token, pieces []string, fault Fault) {
	if len(text) > 4000 {
		return nil, nil, Fault{Err: api.ErrLong}
	}
	for at := 0; at < len(text); {
		if size := len(modelGap.FindString(text[at:])); size > 0 {
			at += size
			continue
		}
		line, col := modelPlace(text, at)
		t, size, err := modelFirst(text[at:])
		if err != nil {
			return nil, nil, Fault{Line: line, Col: col, Err: err}
		}
		t.Line, t.Col = line, col
		list = append(list, t)
		pieces = append(pieces, text[at:at+size])
		at += size
	}
	return list, pieces, Fault{}
}

// clip keeps what a failed test tells short.
func clip(s string) string {
	if len(s) > 100 {
		return fmt.Sprintf("%q .. (%d bytes)", s[:100], len(s))
	}
	return fmt.Sprintf("%q", s)
}

// checkFault holds an answer of Split against the one fault that is asked for.
func checkFault(t *testing.T, text string, list []Token, err error, want Fault) {
	t.Helper()
	got, is := err.(*Fault)
	if !is || got == nil || got.Line != want.Line || got.Col != want.Col || !errors.Is(got.Err, want.Err) || !errors.Is(err, want.Err) {
		t.Fatalf("Split(%s): %#v, want %d:%d, %v", clip(text), err, want.Line, want.Col, want.Err)
	}
	if list != nil {
		t.Fatalf("Split(%s): %d tokens beside an error", clip(text), len(list))
	}
	line, col, is := Where(err)
	if !is || line != want.Line || col != want.Col {
		t.Fatalf("Where of %s: %d, %d, %v, want %d, %d", clip(text), line, col, is, want.Line, want.Col)
	}
}

// check holds Split and Ident of a text against the model, and P7.2 of it.
func check(t *testing.T, text string) {
	t.Helper()
	want, pieces, fault := modelSplit(text)
	got, err := Split(text)
	ident := len(want) == 1 && want[0].Kind == Word && want[0].Text == text
	if Ident(text) != ident {
		t.Fatalf("Ident(%s): %v, want %v", clip(text), !ident, ident)
	}
	if fault.Err != nil {
		checkFault(t, text, got, err, fault)
		return
	}
	if err != nil || !slices.Equal(got, want) {
		t.Fatalf("Split(%s): %v, %v, want %v", clip(text), got, err, want)
	}
	checkJoined(t, got, pieces)
}

// placeless is a list of tokens without their places.
func placeless(list []Token) []Token {
	out := slices.Clone(list)
	for i := range out {
		out[i].Line, out[i].Col = 0, 0
	}
	return out
}

// checkJoined asks P7.2 of tokens: what they have in a text, with a blank between, are they again.
func checkJoined(t *testing.T, list []Token, pieces []string) {
	t.Helper()
	text := strings.Join(pieces, " ")
	again, err := Split(text)
	if len(text) > 4000 {
		checkFault(t, text, again, err, Fault{Err: api.ErrLong})
		return
	}
	if err != nil || !slices.Equal(placeless(again), placeless(list)) {
		t.Fatalf("Split(%s): %v, %v, want %v, but for places", clip(text), again, err, list)
	}
	at := 1
	for i, piece := range pieces {
		if again[i].Line != 1 || again[i].Col != at {
			t.Fatalf("Split(%s): token %d is at %d:%d, want 1:%d", clip(text), i, again[i].Line, again[i].Col, at)
		}
		at += len(piece) + 1
	}
}

// eachRow calls with all rows of so many bytes out of those given.
func eachRow(out string, size int, call func(s string)) {
	var walk func(b []byte)
	walk = func(b []byte) {
		if len(b) == size {
			call(string(b))
			return
		}
		for i := range len(out) {
			walk(append(b, out[i]))
		}
	}
	walk(make([]byte, 0, size))
}

func everyByte() string {
	all := make([]byte, 256)
	for i := range all {
		all[i] = byte(i)
	}
	return string(all)
}

// chance answers numbers that look like chance, the same ones each time.
func chance(seed uint64) func(below int) int {
	return func(below int) int {
		seed = seed*6364136223846793005 + 1442695040888963407
		return int((seed >> 33) % uint64(below))
	}
}

// P7.1, P7.2: of all texts of up to two bytes.
func TestSmallTexts(t *testing.T) {
	for size := range 3 {
		eachRow(everyByte(), size, func(s string) { check(t, s) })
	}
}

// P7.1, P7.2: of all texts of a few bytes that matter to one another.
func TestTextsOfEdges(t *testing.T) {
	for _, row := range []struct {
		out  string
		size int
	}{
		{"\x00\t\n\r !\"#'()*+,-./0179:;<=>?@AFGXZ[\\]^_`afgxz{|}~\x7f\x80\xc3\xff", 3},
		{"/*\n\"'\\a ", 6},
		{"0x1789afg_", 5},
		{"0X9AFGz.-", 5},
	} {
		for size := range row.size + 1 {
			eachRow(row.out, size, func(s string) { check(t, s) })
		}
	}
}

// P7.1: each byte stands ahead of, within and behind each kind of token and gap.
func TestEachPlace(t *testing.T) {
	for _, s := range []string{"abc", "_9", "0", "12", "017", "0x1f", "0X1F", `"ab"`, "'ab'", `""`, "{}", "// a\nb", "/* a */b", "/**/", "a.b = 1;"} {
		for at := range len(s) + 1 {
			for _, x := range []byte(everyByte()) {
				check(t, s[:at]+string([]byte{x})+s[at:])
				if at < len(s) {
					check(t, s[:at]+string([]byte{x})+s[at+1:])
				}
			}
		}
	}
}

// P7.1, P7.2: of mixed texts, right ones, and ones with one fault or more in them.
func TestMixedTexts(t *testing.T) {
	pieces := []string{
		"", " ", "\t", "\r", "\n", "\r\n", "// a \" ' \\ */ /*\n", "//\n", "/* a */", "/**/", "/***/", "/* // \n\n */", "/*/ \" */",
		"a", "_", "message", "A9_z", "x0", "0", "00", "7", "10", "017", "0x10", "0XfF", "2147483647", "0x7fffffff", "017777777777",
		`""`, "''", `"a'b"`, `'a"b'`, `"// a"`, "'/* a'", "\"\r\t\"", "\"\x00\xff\"", "'\xc3\xa4'",
		"{", "}", "[", "]", "<", ">", "(", ")", ";", "=", ",", ".", "-", strings.Repeat("a", 40),
	}
	wrong := []string{
		"#", "/", "*", "\\", "+", "\x00", "\xc3\xa4", "\xff", "/* a", "/*/", `"a`, "'a", "\"a\n\"", `"a\"`, `"\n"`, "'a\nb'",
		"08", "0x", "0xg", "1a", "1_", "0_", "00x1", "2147483648", "0x80000000", "020000000000", strings.Repeat("a", 41),
	}
	for seed := range uint64(6000) {
		next := chance(seed)
		text := ""
		for range next(16) {
			text += pieces[next(len(pieces))]
		}
		check(t, text)
		text += " " + wrong[next(len(wrong))]
		check(t, text)
		text += " " + pieces[next(len(pieces))] + wrong[next(len(wrong))]
		check(t, text)
	}
}

// P7.1: tokens that are written out.
func TestWrittenOut(t *testing.T) {
	for _, row := range []struct {
		text string
		want []Token
	}{
		{"", nil},
		{" \t\r\n", nil},
		{"// no end", nil},
		{"/* a\n * b */", nil},
		{"a = 0x10; // x", []Token{{Word, "a", 0, 1, 1}, {Sign, "=", 0, 1, 3}, {Int, "0x10", 16, 1, 5}, {Sign, ";", 0, 1, 9}}}, // the chapter's example
		{"a\nb\r\nc", []Token{{Word, "a", 0, 1, 1}, {Word, "b", 0, 2, 1}, {Word, "c", 0, 3, 1}}},
		{"\n\n\t\tx", []Token{{Word, "x", 0, 3, 3}}},
		{"a\rb", []Token{{Word, "a", 0, 1, 1}, {Word, "b", 0, 1, 3}}}, // a carriage return begins no line
		{"/*\n\n*/ a//\n b", []Token{{Word, "a", 0, 3, 4}, {Word, "b", 0, 4, 2}}},
		{"a/**/b//c", []Token{{Word, "a", 0, 1, 1}, {Word, "b", 0, 1, 6}}},
		{"/*/*/a", []Token{{Word, "a", 0, 1, 6}}}, // the end of a remark stands behind its beginning
		{"/* /* */a", []Token{{Word, "a", 0, 1, 9}}},
		{"// /*\na", []Token{{Word, "a", 0, 2, 1}}},
		{"///*\na", []Token{{Word, "a", 0, 2, 1}}},
		{`"" ''`, []Token{{Text, "", 0, 1, 1}, {Text, "", 0, 1, 4}}},
		{`"a'b"'c"d'`, []Token{{Text, "a'b", 0, 1, 1}, {Text, `c"d`, 0, 1, 6}}},
		{"\"\xff\x00\r\t//\"x", []Token{{Text, "\xff\x00\r\t//", 0, 1, 1}, {Word, "x", 0, 1, 9}}},
		{"'\xc3\xa4'x", []Token{{Text, "\xc3\xa4", 0, 1, 1}, {Word, "x", 0, 1, 5}}}, // byte by byte
		{"/*\xc3\xa4*/x", []Token{{Word, "x", 0, 1, 7}}},
		{"1.5-a", []Token{{Int, "1", 1, 1, 1}, {Sign, ".", 0, 1, 2}, {Int, "5", 5, 1, 3}, {Sign, "-", 0, 1, 4}, {Word, "a", 0, 1, 5}}},
		{`a"b"1`, []Token{{Word, "a", 0, 1, 1}, {Text, "b", 0, 1, 2}, {Int, "1", 1, 1, 5}}},
		{"{}[]<>();=,.-", []Token{
			{Sign, "{", 0, 1, 1}, {Sign, "}", 0, 1, 2}, {Sign, "[", 0, 1, 3}, {Sign, "]", 0, 1, 4}, {Sign, "<", 0, 1, 5}, {Sign, ">", 0, 1, 6},
			{Sign, "(", 0, 1, 7}, {Sign, ")", 0, 1, 8}, {Sign, ";", 0, 1, 9}, {Sign, "=", 0, 1, 10}, {Sign, ",", 0, 1, 11}, {Sign, ".", 0, 1, 12}, {Sign, "-", 0, 1, 13},
		}},
	} {
		got, err := Split(row.text)
		if err != nil || !slices.Equal(got, row.want) {
			t.Errorf("Split(%q): %v, %v, want %v", row.text, got, err, row.want)
		}
		check(t, row.text)
	}
}

// P7.1: numbers that are written out, to both ends of their range.
func TestNumbers(t *testing.T) {
	for _, row := range []struct {
		text string
		want int
	}{
		{"0", 0}, {"00", 0}, {"0000", 0}, {"0x0", 0}, {"0X00", 0}, {"1", 1}, {"9", 9}, {"10", 10}, {"1234567890", 1234567890},
		{"07", 7}, {"010", 8}, {"0777", 511}, {"0x9", 9}, {"0xa", 10}, {"0xF", 15}, {"0X1f", 31}, {"0xaBcDeF", 0xabcdef},
		{"2147483647", math.MaxInt32}, {"0x7FFFFFFF", math.MaxInt32}, {"017777777777", math.MaxInt32}, {"2147483640", math.MaxInt32 - 7},
		{"0" + strings.Repeat("0", 1000) + "17777777777", math.MaxInt32}, {"0x" + strings.Repeat("0", 3990) + "7fffffff", math.MaxInt32},
		{strings.Repeat("0", 4000), 0},
	} {
		got, err := Split(row.text)
		if err != nil || len(got) != 1 || got[0] != (Token{Int, row.text, row.want, 1, 1}) {
			t.Errorf("Split(%s): %v, %v, want the number %d", clip(row.text), got, err, row.want)
		}
	}
	for shift := range 32 {
		for n := max(1<<shift-2, 0); n <= min(1<<shift+2, math.MaxInt32); n++ {
			for _, text := range []string{fmt.Sprint(n), fmt.Sprintf("0x%x", n), fmt.Sprintf("0X%X", n), fmt.Sprintf("0%o", n)} {
				if got, err := Split(text); err != nil || len(got) != 1 || got[0].Number != n {
					t.Fatalf("Split(%q): %v, %v, want %d", text, got, err, n)
				}
			}
		}
	}
}

// P7.1: faults that are written out, with their places and in their order.
func TestFaults(t *testing.T) {
	long := strings.Repeat("b", 41)
	for _, row := range []struct {
		text      string
		line, col int
		err       error
	}{
		{"#", 1, 1, api.ErrForm},
		{"a #", 1, 3, api.ErrForm},
		{"a\n\n  /", 3, 3, api.ErrForm},
		{"a / b", 1, 3, api.ErrForm},
		{"*/", 1, 1, api.ErrForm},
		{"/**/*/", 1, 5, api.ErrForm},
		{"\\", 1, 1, api.ErrForm},
		{"\x00", 1, 1, api.ErrForm},
		{"a\x0bb", 1, 2, api.ErrForm},
		{"a\x0cb", 1, 2, api.ErrForm},
		{"\xc3\xa4", 1, 1, api.ErrForm},
		{"\xef\xbb\xbfa", 1, 1, api.ErrForm},
		{"a\xc2\xa0b", 1, 2, api.ErrForm},
		{"+1", 1, 1, api.ErrForm},
		{" /* a\nb", 1, 2, api.ErrForm},
		{"/*", 1, 1, api.ErrForm},
		{"\n/*/", 2, 1, api.ErrForm},
		{"a\n \"b", 2, 2, api.ErrForm},
		{"'", 1, 1, api.ErrForm},
		{`"a'`, 1, 1, api.ErrForm},
		{"x 'a\"", 1, 3, api.ErrForm},
		{"x \"a\nb\" c", 1, 3, api.ErrForm},
		{"\"\n\"", 1, 1, api.ErrForm},
		{"\"a\\\"", 1, 1, api.ErrForm},
		{`"a\" b"`, 1, 1, api.ErrForm},
		{`'\'`, 1, 1, api.ErrForm},
		{"00 08", 1, 4, api.ErrForm},
		{"018", 1, 1, api.ErrForm},
		{"0x", 1, 1, api.ErrForm},
		{"0X;", 1, 1, api.ErrForm},
		{"0xg", 1, 1, api.ErrForm},
		{"0x1G", 1, 1, api.ErrForm},
		{"0x_1", 1, 1, api.ErrForm},
		{"0b1", 1, 1, api.ErrForm},
		{"0o7", 1, 1, api.ErrForm},
		{"00x1", 1, 1, api.ErrForm},
		{"1a", 1, 1, api.ErrForm},
		{"1_000", 1, 1, api.ErrForm},
		{"1x1", 1, 1, api.ErrForm},
		{"1e5", 1, 1, api.ErrForm},
		{"9f", 1, 1, api.ErrForm},
		{"; 2147483648", 1, 3, api.ErrRange},
		{"2147483650", 1, 1, api.ErrRange},
		{"4294967296", 1, 1, api.ErrRange},
		{"18446744073709551616", 1, 1, api.ErrRange},
		{"18446744073709551617", 1, 1, api.ErrRange},
		{"0x80000000", 1, 1, api.ErrRange},
		{"0x100000000", 1, 1, api.ErrRange},
		{"0X10000000000000001", 1, 1, api.ErrRange},
		{"020000000000", 1, 1, api.ErrRange},
		{"02000000000000000000001", 1, 1, api.ErrRange},
		{strings.Repeat("9", 4000), 1, 1, api.ErrRange},
		{"99999999999999999999a", 1, 1, api.ErrForm}, // a number that isn't one has no range
		{"0xfffffffffffffffffg", 1, 1, api.ErrForm},
		{"07777777777777777777778", 1, 1, api.ErrForm},
		{long, 1, 1, api.ErrLong},
		{"a\n" + long + " #", 2, 1, api.ErrLong},
		{"# " + long, 1, 1, api.ErrForm},
		{"08 2147483648", 1, 1, api.ErrForm},
		{"2147483648 08", 1, 1, api.ErrRange},
		{"\"" + long + "\" // " + long + "\n/*" + long + "*/ _" + long, 2, 47, api.ErrLong},
	} {
		got, err := Split(row.text)
		checkFault(t, row.text, got, err, Fault{row.line, row.col, row.err})
		check(t, row.text)
	}
}

// P7.1: a word may have MaxName bytes, and a text MaxSchema ones, whatever it has.
func TestLimits(t *testing.T) {
	for _, b := range []string{"a", "_", "Z", "a9"} {
		for size := 36; size <= 44; size++ {
			s := strings.Repeat(b, size)[:size]
			if Ident(s) != (size <= api.MaxName) {
				t.Errorf("Ident of %d bytes: %v", size, Ident(s))
			}
			check(t, s)
			check(t, s+"{")
		}
	}
	for _, b := range []string{" ", "\n", ";", "a ", "1.", "\"a\"", "/**/", "#", "\xff", "a", "0", "\"", "/*"} {
		for _, size := range []int{3999, 4000, 4001, 4002, 8000} {
			check(t, strings.Repeat(b, size)[:size])
		}
	}
	got, err := Split(strings.Repeat(";", 4000))
	if err != nil || len(got) != 4000 || got[3999] != (Token{Sign, ";", 0, 1, 4000}) {
		t.Errorf("4000 signs: %d tokens, %v", len(got), err)
	}
	got, err = Split(strings.Repeat("\n", 3999) + "a")
	if err != nil || len(got) != 1 || got[0] != (Token{Word, "a", 0, 4000, 1}) {
		t.Errorf("a word on line 4000: %v, %v", got, err)
	}
	text := strings.Repeat("#", 4001)
	got, err = Split(text)
	checkFault(t, text, got, err, Fault{0, 0, api.ErrLong})
	if err.Error() != "0:0" {
		t.Errorf("a text that is too long: %q", err.Error())
	}
	got, err = Split("\"" + strings.Repeat("a", 3998) + "\"")
	if err != nil || len(got) != 1 || got[0].Text != strings.Repeat("a", 3998) {
		t.Errorf("a long text: %d tokens, %v", len(got), err)
	}
}

// P7.1: which texts are words.
func TestIdent(t *testing.T) {
	for _, s := range []string{"a", "z", "A", "Z", "_", "a_1", "message", "__", "_0", strings.Repeat("x", 40)} {
		if !Ident(s) {
			t.Errorf("%q is a word", s)
		}
	}
	for _, s := range []string{"", "1", "1a", "a b", " a", "a ", "a\n", "a.b", "a-b", "\"a\"", "a//", "a\x00", "\xc3\xa4", "a\xc3\xa4", "@", "[", "`", "{", strings.Repeat("x", 41)} {
		if Ident(s) {
			t.Errorf("%q is no word", s)
		}
	}
}

// P7.1: a fault tells its place, and what it wraps.
func TestFault(t *testing.T) {
	for _, row := range []struct {
		f    Fault
		want string
	}{
		{Fault{}, "0:0"},
		{Fault{2, 3, api.ErrForm}, "2:3"},
		{Fault{12, 345, nil}, "12:345"},
		{Fault{-1, -20, api.ErrLong}, "-1:-20"},
		{Fault{math.MaxInt64, math.MinInt64, api.ErrLong}, "9223372036854775807:-9223372036854775808"},
	} {
		if got := row.f.Error(); got != row.want {
			t.Errorf("Error of %v: %q, want %q", row.f, got, row.want)
		}
		if got := row.f.Unwrap(); got != row.f.Err {
			t.Errorf("Unwrap of %v: %v, want %v", row.f, got, row.f.Err)
		}
	}
}

// stub is an error of another program, which may wrap one, or panic.
type stub struct {
	inner  error
	panics bool
}

func (s stub) Error() string { return "stub" }

func (s stub) Unwrap() error {
	if s.panics {
		panic("stub")
	}
	return s.inner
}

// P7.1: where an error is, whatever it wraps, and is wrapped by.
func TestWhere(t *testing.T) {
	f := &Fault{4, 7, api.ErrForm}
	var none *Fault
	for name, row := range map[string]struct {
		err       error
		line, col int
		is        bool
	}{
		"nil":                {nil, 0, 0, false},
		"another":            {api.ErrForm, 0, 0, false},
		"another that wraps": {fmt.Errorf("a: %w", api.ErrForm), 0, 0, false},
		"a fault":            {f, 4, 7, true},
		"an empty fault":     {&Fault{}, 0, 0, true},
		"a wrapped one":      {fmt.Errorf("a: %w", f), 4, 7, true},
		"twice wrapped":      {stub{inner: fmt.Errorf("a: %w", f)}, 4, 7, true},
		"among others":       {errors.Join(api.ErrLong, f, &Fault{1, 1, nil}), 4, 7, true},
		"a fault of a fault": {&Fault{8, 9, f}, 8, 9, true},
		"below 0":            {&Fault{-3, math.MinInt, nil}, -3, math.MinInt, true},
		"told, not wrapped":  {fmt.Errorf("a: %v", f), 0, 0, false},
		"a nil fault":        {none, 0, 0, false},
		"a wrapped nil":      {stub{inner: none}, 0, 0, false},
		"one that panics":    {stub{panics: true}, 0, 0, false},
	} {
		if line, col, is := Where(row.err); line != row.line || col != row.col || is != row.is {
			t.Errorf("Where of %s: %d, %d, %v, want %d, %d, %v", name, line, col, is, row.line, row.col, row.is)
		}
	}
}

// P7.1: the kinds' numbers and words.
func TestName(t *testing.T) {
	if Word != 1 || Int != 2 || Text != 3 || Sign != 4 {
		t.Errorf("kinds: %d, %d, %d, %d", Word, Int, Text, Sign)
	}
	for kind := -300; kind <= 300; kind++ {
		want := map[int]string{1: "word", 2: "int", 3: "text", 4: "sign"}[kind]
		if got := Name(kind); got != want {
			t.Errorf("Name(%d): %q, want %q", kind, got, want)
		}
	}
	if Name(math.MinInt) != "" || Name(math.MaxInt) != "" || Name(1<<32+1) != "" {
		t.Error("a kind that there isn't has a word")
	}
}

// P7.1: what Split answers shares no memory with the text, nor with another answer.
func TestSplitIsApart(t *testing.T) {
	text := `ab cd 0x10 "ef" {`
	begin := uintptr(unsafe.Pointer(unsafe.StringData(text)))
	list, err := Split(text)
	if err != nil || len(list) != 5 {
		t.Fatal(list, err)
	}
	for _, token := range list {
		at := uintptr(unsafe.Pointer(unsafe.StringData(token.Text)))
		if begin <= at && at < begin+uintptr(len(text)) {
			t.Errorf("%q is in the memory of what was given", token.Text)
		}
	}
	list[0] = Token{}
	again, err := Split(text)
	if err != nil || len(again) != 5 || again[0] != (Token{Word, "ab", 0, 1, 1}) {
		t.Errorf("Split anew: %v, %v", again, err)
	}
}

// P7.2: tokens that stand close together are the same ones apart, and with any gap between.
func TestGaps(t *testing.T) {
	pieces := []string{"a", "0x10", `"b'"`, `'c"'`, "{", ";", "-", "message", "0", "."}
	gaps := []string{" ", "\t", "\r", "\n", "\r\n", "//\n", "// a\n", "/**/", "/* a\n */", " \t /* */ // \n\n"}
	for seed := range uint64(2000) {
		next := chance(seed)
		var row []string
		text := gaps[next(len(gaps))]
		for range next(10) {
			piece := pieces[next(len(pieces))]
			row = append(row, piece)
			text += piece + gaps[next(len(gaps))]
		}
		list, err := Split(text)
		if err != nil || len(list) != len(row) {
			t.Fatalf("Split(%s): %v, %v, want %d tokens", clip(text), list, err, len(row))
		}
		checkJoined(t, list, row)
	}
	for text, row := range map[string][]string{
		"a=0x10;":    {"a", "=", "0x10", ";"},
		`a"b"'c'1.2`: {"a", `"b"`, "'c'", "1", ".", "2"},
		"-1-a":       {"-", "1", "-", "a"},
		"<{[(;)]}>":  {"<", "{", "[", "(", ";", ")", "]", "}", ">"},
	} {
		list, err := Split(text)
		if err != nil || len(list) != len(row) {
			t.Fatalf("Split(%q): %v, %v, want %d tokens", text, list, err, len(row))
		}
		checkJoined(t, list, row)
	}
}
