package apply

import (
	"math"
	"strings"
	"testing"

	"redline/api"
	"redline/decode"
	"redline/edit"
	"redline/encode"
	"redline/hold"
	"redline/invert"
	"redline/schema"
	"redline/value"
)

const text = `syntax = 'proto3';
message A { int32 x = 1; string s = 2; repeated A l = 3; map<string, A> m = 4; oneof o { int32 p = 5; string q = 6; } bytes b = 7; repeated int32 r = 8; A a = 9; optional int32 n = 10; map<int32, string> t = 11; }
message B { int32 x = 1; }`

func compiled(t *testing.T) schema.Schema {
	t.Helper()
	s, err := schema.Of(text)
	if err != nil {
		t.Fatal(err)
	}
	return s
}

// scripted is a script, a value to which it is done within limits, and what comes of it: a value, or an error.
type scripted struct {
	message int
	e       edit.Edit
	v       value.Value
	l       decode.Limits
	want    value.Value
	err     error
}

func holdScript(t *testing.T, s schema.Schema, x scripted) {
	t.Helper()
	e, v := editCopy(x.e), valueCopy(x.v)
	got, err := Script(s, x.message, e, v, x.l)
	if !isError(err, x.err) || !exact(got, x.want) {
		t.Fatalf("Script(%d, %v, %v, %v): %v, %v, want %v, %v", x.message, x.e, x.v, x.l, got, err, x.want, x.err)
	}
	if !editExact(e, x.e) || !exact(v, x.v) || !editRoomZero(e) || !valueRoomZero(v) {
		t.Fatalf("Script(%d, %v, %v, %v) changed them to %v, %v", x.message, x.e, x.v, x.l, e, v)
	}
}

// wide are limits that nothing here goes beyond.
func wide() decode.Limits { return decode.Limits{Depth: math.MaxInt, Bytes: math.MaxInt} }

// P23.1, P23.2: scripts that can be done, and the other way.
func TestScript(t *testing.T) {
	s := compiled(t)
	one, minus, a := num(1), num(math.MaxUint64), str("a")
	for _, x := range []struct {
		e       edit.Edit
		v, want value.Value
	}{
		{edit.Edit{}, message(""), message("")},
		{edit.Edit{}, message("\xf8\x01\x00", has(1, one)), message("\xf8\x01\x00", has(1, one))},
		{swap(message(""), message("", has(1, one))), message(""), message("", has(1, one))},
		{into(field(1, comes(one)), field(2, comes(a))), message(""), message("", has(1, one), has(2, a))},
		{into(field(1, swap(one, minus)), field(2, goes(a))), message("", has(1, one), has(2, a)), message("", has(1, minus))},
		{into(field(3, row(put(message("")), kept(1), drop(message("", has(1, one)))))), message("", has(3, list(message("", has(2, a)), message("", has(1, one))))), message("", has(3, list(message(""), message("", has(2, a)))))},
		{into(field(3, row(change(into(field(1, goes(one))))))), message("", has(3, list(message("", has(1, one))))), message("", has(3, list(message(""))))},
		{into(field(4, book(key(a, comes(message(""))), key(str("b"), rests("", "\xf8\x01\x00"))))), message("", has(4, table(pair(str("b"), message(""))))), message("", has(4, table(pair(a, message("")), pair(str("b"), message("\xf8\x01\x00")))))},
		{into(field(5, goes(num(0))), field(6, comes(str("")))), message("", has(5, num(0))), message("", has(6, str("")))}, // one of a oneof in place of another one
		{into(field(7, swap(str("\xff"), a)), field(8, row(drop(one), put(num(0)), put(minus)))), message("", has(7, str("\xff")), has(8, list(one))), message("", has(7, a), has(8, list(num(0), minus)))},
		{into(field(9, into(field(9, into(field(10, comes(num(0)))))))), message("", has(9, message("", has(9, message(""))))), message("", has(9, message("", has(9, message("", has(10, num(0)))))))},
		{into(field(11, book(key(num(0), comes(str(""))), key(minus, goes(a))))), message("", has(11, table(pair(minus, a)))), message("", has(11, table(pair(num(0), str("")))))},
		{rests("\xf8\x01\x00", "\x09\x00\x00\x00\x00\x00\x00\x00\x00"), message("\xf8\x01\x00"), message("\x09\x00\x00\x00\x00\x00\x00\x00\x00")}, // of another wire kind than the field's
	} {
		holdScript(t, s, scripted{0, x.e, x.v, wide(), x.want, nil})
		holdScript(t, s, scripted{0, invert.Of(x.e), x.want, wide(), x.v, nil})
	}
	holdScript(t, s, scripted{1, into(field(1, comes(one))), message(""), wide(), message("", has(1, one)), nil})
}

// wrongFor are values that the message 0 doesn't hold, and layer 14's errors of them.
func wrongFor() []scripted {
	one := num(1)
	wrong := []scripted{
		{v: message("", has(12, one)), err: api.ErrTag}, {v: message("", has(mostNumber, one)), err: api.ErrTag},
		{v: message("", has(1, str("a"))), err: api.ErrKind}, {v: message("", has(1, list(one))), err: api.ErrKind}, {v: message("", has(3, message(""))), err: api.ErrKind}, {v: message("", has(4, list(message("")))), err: api.ErrKind}, {v: message("", has(8, one)), err: api.ErrKind}, {v: message("", has(8, list(one, str("")))), err: api.ErrKind}, {v: message("", has(4, table(pair(one, message(""))))), err: api.ErrKind},
		{v: message("", has(1, num(0))), err: api.ErrKind}, {v: message("", has(2, str(""))), err: api.ErrKind}, {v: message("", has(7, str(""))), err: api.ErrKind}, {v: message("", has(1, num(1<<31))), err: api.ErrKind}, {v: message("", has(10, num(1<<63))), err: api.ErrKind},
		{v: message("", has(2, str("\xff"))), err: api.ErrRune}, {v: message("", has(6, str("\xc0\x80"))), err: api.ErrRune}, {v: message("", has(4, table(pair(str("\xff"), message(""))))), err: api.ErrRune}, {v: message("", has(11, table(pair(one, str("\x80"))))), err: api.ErrRune},
		{v: message("", has(5, one), has(6, str(""))), err: api.ErrDup},
		{v: message("\xf8\x01"), err: api.ErrShort}, {v: message("\x0b"), err: api.ErrGroup}, {v: message("\x08\x01"), err: api.ErrTag}, {v: message("\x42\x00"), err: api.ErrTag}, {v: message("\x00"), err: api.ErrTag}, {v: message("\xf8\x01\xff\xff\xff\xff\xff\xff\xff\xff\xff\xff"), err: api.ErrVarint},
	}
	for _, x := range wrong[:len(wrong):len(wrong)] {
		for _, v := range []value.Value{message("", has(9, x.v)), message("", has(3, list(message(""), x.v))), message("", has(4, table(pair(str("a"), x.v))))} {
			wrong = append(wrong, scripted{v: v, err: x.err})
		}
	}
	return wrong
}

// P23.1: ErrNone of a message that there isn't comes ahead of all other errors.
func TestScriptNone(t *testing.T) {
	s := compiled(t)
	for _, m := range []int{-1, 2, math.MinInt, math.MaxInt} {
		for _, x := range []scripted{{v: message("")}, {v: message(""), e: into(field(1, comes(num(1)))), l: wide()}, {}, {v: num(1)}, {v: list()}, {v: message("", has(99, num(1)))}, {v: message(""), e: edit.Edit{Kind: 5}}, {v: message(""), e: comes(num(1))}} {
			x.message, x.err = m, api.ErrNone
			holdScript(t, s, x)
		}
		holdScript(t, schema.Schema{}, scripted{message: m, v: message(""), err: api.ErrNone})
	}
	holdScript(t, schema.Schema{}, scripted{v: message(""), l: wide(), err: api.ErrNone})
}

// P23.1: layer 14's error of the value comes ahead of the edit's and of the limits'.
func TestScriptValue(t *testing.T) {
	s := compiled(t)
	values := wrongFor()
	for _, v := range []value.Value{{}, num(1), str("a"), list(message("")), table(pair(num(1), num(1)))} {
		values = append(values, scripted{v: v, err: api.ErrForm})
	}
	for _, v := range wrongValues() {
		values = append(values, scripted{v: v, err: api.ErrForm})
	}
	for _, x := range values {
		if err := hold.Check(s, 0, x.v); !isError(err, x.err) {
			t.Fatalf("Check(%v): %v, want %v", x.v, err, x.err)
		}
		for _, e := range []edit.Edit{{}, {Kind: 5}, {New: num(1)}, into(), comes(num(1)), into(field(99, comes(num(1)))), into(field(8, row(change(goes(num(1))))))} {
			for _, l := range []decode.Limits{{}, wide()} {
				holdScript(t, s, scripted{0, e, x.v, l, value.Value{}, x.err})
			}
		}
		// It is an error also if the edit makes a value of it that is held.
		if value.Right(x.v) {
			holdScript(t, s, scripted{0, swap(x.v, message("")), x.v, wide(), value.Value{}, x.err})
		}
	}
	// A value that another message holds.
	holdScript(t, s, scripted{1, edit.Edit{}, message("", has(2, str("a"))), wide(), value.Value{}, api.ErrTag})
}

// P23.1: Value's error comes ahead of those of what comes of it, and of the limits'.
func TestScriptEdit(t *testing.T) {
	s := compiled(t)
	v := message("", has(1, num(1)), has(8, list(num(1), num(2))), has(11, table(pair(num(1), str("a")))))
	for _, e := range wrongEdits() {
		holdScript(t, s, scripted{0, e, v, decode.Limits{}, value.Value{}, api.ErrForm})
	}
	for _, x := range []struct {
		e   edit.Edit
		err error
	}{
		{swap(message(""), num(1)), api.ErrClash}, {comes(v), api.ErrClash}, {row(put(num(1))), api.ErrClash}, {book(key(num(1), comes(num(1)))), api.ErrClash}, {rests("a", ""), api.ErrClash}, {into(field(99, goes(num(1)))), api.ErrClash}, {into(field(1, comes(num(0)))), api.ErrClash},
		{into(field(1, swap(num(1), num(0))), field(8, row(kept(1), put(str(""))))), api.ErrClash}, {into(field(8, row(kept(1), change(goes(num(2)))))), api.ErrKind}, {into(field(8, row(kept(1), drop(num(3))))), api.ErrClash},
		{into(field(11, book(key(str("a"), comes(str("b")))))), api.ErrClash}, {into(field(11, book(key(num(1), swap(str("a"), list(num(1))))))), api.ErrKind}, {into(field(1, swap(num(1), str(""))), field(99, comes(num(1))), field(100, goes(num(1)))), api.ErrClash},
	} {
		for _, l := range []decode.Limits{{}, wide()} {
			holdScript(t, s, scripted{0, x.e, v, l, value.Value{}, x.err})
		}
	}
}

// P23.1: layer 14's error of what comes of the value comes ahead of the limits'.
func TestScriptMade(t *testing.T) {
	s := compiled(t)
	v := message("", has(1, num(1)))
	hold := func(made value.Value, err error) {
		t.Helper()
		for _, l := range []decode.Limits{{}, {Depth: math.MinInt, Bytes: math.MinInt}, wide()} {
			holdScript(t, s, scripted{0, swap(v, made), v, l, value.Value{}, err})
			m := newMaker(1)
			for range 4 {
				if e := m.to(v, made); !value.Same(v, made) {
					holdScript(t, s, scripted{0, e, v, l, value.Value{}, err})
				}
			}
		}
	}
	for _, x := range wrongFor() {
		hold(x.v, x.err)
	}
	for _, made := range []value.Value{{}, num(1), str("a"), list(message("")), table(pair(num(1), num(1)))} {
		hold(made, api.ErrForm)
	}
	holdScript(t, s, scripted{1, into(field(2, comes(str("a")))), message(""), wide(), value.Value{}, api.ErrTag})
}

// P23.1: ErrDepth, and then ErrLong, of what comes of the value, at their edges; what the value itself is doesn't matter.
func TestLimits(t *testing.T) {
	s := compiled(t)
	deep := func(depth int) value.Value {
		v := message("")
		for i := range depth - 1 {
			switch i % 3 {
			case 0:
				v = message("", has(9, v))
			case 1:
				v = message("", has(3, list(message(""), v)))
			case 2:
				v = message("", has(4, table(pair(str(""), message("")), pair(str("a"), v))))
			}
		}
		return v
	}
	long := func(bytes int) value.Value { // its tag and length are two bytes, or three
		if bytes < 130 {
			return message("", has(7, str(strings.Repeat("a", bytes-2))))
		}
		return message("", has(7, str(strings.Repeat("a", bytes-3))))
	}
	for _, from := range []value.Value{message("", has(1, num(1))), deep(70), long(1 << 19)} {
		for _, depth := range []int{1, 2, 3, 4, 8, 64, 65} {
			to := deep(depth)
			holdScript(t, s, scripted{0, swap(from, to), from, decode.Limits{Depth: depth, Bytes: math.MaxInt}, to, nil})
			for _, less := range []int{depth - 1, 0, -1, math.MinInt} {
				for _, bytes := range []int{math.MaxInt, 0, -1} {
					holdScript(t, s, scripted{0, swap(from, to), from, decode.Limits{Depth: less, Bytes: bytes}, value.Value{}, api.ErrDepth})
				}
			}
		}
		for _, bytes := range []int{3, 4, 129, 131, 4096, 4097, 1<<18 - 1} {
			to := long(bytes)
			if b, err := encode.Of(s, 0, to); bytes < 1<<14 && (err != nil || len(b) != bytes) {
				t.Fatalf("%d bytes, want %d", len(b), bytes)
			}
			bytes, _ = encode.Length(s, 0, to)
			holdScript(t, s, scripted{0, swap(from, to), from, decode.Limits{Depth: 1, Bytes: bytes}, to, nil})
			for _, less := range []int{bytes - 1, 0, -1, math.MinInt} {
				holdScript(t, s, scripted{0, swap(from, to), from, decode.Limits{Depth: 1, Bytes: less}, value.Value{}, api.ErrLong})
			}
		}
		empty := message("")
		holdScript(t, s, scripted{0, swap(from, empty), from, decode.Limits{Depth: 1}, empty, nil})
		holdScript(t, s, scripted{0, swap(from, empty), from, decode.Limits{}, value.Value{}, api.ErrDepth})
		holdScript(t, s, scripted{0, swap(from, empty), from, decode.Limits{Depth: 1, Bytes: -1}, value.Value{}, api.ErrLong})
	}
	// They hold also of what stays as it was, and the Rest counts.
	v := message("\xf8\x01\x00", has(1, num(1)))
	holdScript(t, s, scripted{0, edit.Edit{}, v, decode.Limits{Depth: 1, Bytes: 5}, v, nil})
	holdScript(t, s, scripted{0, edit.Edit{}, v, decode.Limits{Depth: 1, Bytes: 4}, value.Value{}, api.ErrLong})
	holdScript(t, s, scripted{0, edit.Edit{}, v, decode.Values(), v, nil})
	holdScript(t, s, scripted{0, edit.Edit{}, deep(8), decode.Values(), deep(8), nil})
	holdScript(t, s, scripted{0, edit.Edit{}, deep(9), decode.Values(), value.Value{}, api.ErrDepth})
	holdScript(t, s, scripted{0, edit.Edit{}, deep(9), decode.Scripts(), deep(9), nil})
	holdScript(t, s, scripted{0, edit.Edit{}, long(4096), decode.Values(), long(4096), nil})
	holdScript(t, s, scripted{0, edit.Edit{}, long(4097), decode.Values(), value.Value{}, api.ErrLong})
}

// held is a value that the message 0 holds, or, if it isn't so by far, nearly so.
func (m *maker) held(depth int) value.Value {
	v := message(pick(m, "", "", "\xf8\x01\x00", "\xfa\x01\x01a", "\x09\x01\x00\x00\x00\x00\x00\x00\x00"))
	for range m.IntN(4) {
		n := 1 + m.IntN(11)
		v = value.With(v, n, m.heldField(n, depth))
	}
	return v
}

// heldField is a value, or None, of a field of the message 0.
func (m *maker) heldField(n, depth int) value.Value {
	number, texts := num(pick[uint64](m, 1, 2, 1<<31-1, math.MaxUint64)), str(pick(m, "a", "b", "ab"))
	switch n {
	case 1, 10, 5:
		return number
	case 2, 6, 7:
		return texts
	case 8:
		return list(number, num(0))
	case 11:
		return table(pair(number, texts))
	}
	if depth <= 1 {
		return value.Value{}
	}
	switch n {
	case 3:
		return list(m.held(depth-1), m.held(depth-1))
	case 4:
		return value.Put(table(pair(texts, m.held(depth-1))), str("c"), m.held(depth-1))
	}
	return m.held(depth - 1)
}

// modelDepth is how many messages there are within one another.
func modelDepth(v value.Value) int {
	depth := 0
	for _, f := range v.Fields {
		depth = max(depth, modelDepth(f.Value))
	}
	for _, x := range v.List {
		depth = max(depth, modelDepth(x))
	}
	for _, p := range v.Pairs {
		depth = max(depth, modelDepth(p.Value))
	}
	if v.Kind == value.Message {
		depth++
	}
	return depth
}

// modelScript is the chapter's words of Script, of a right edit.
func modelScript(s schema.Schema, e edit.Edit, v value.Value, l decode.Limits) (value.Value, error) {
	if err := hold.Check(s, 0, v); err != nil {
		return value.Value{}, err
	}
	made, err := modelValue(e, v)
	if err != nil {
		return value.Value{}, err
	}
	if err := hold.Check(s, 0, made); err != nil {
		return value.Value{}, err
	}
	if modelDepth(made) > l.Depth {
		return value.Value{}, api.ErrDepth
	}
	if b, _ := encode.Of(s, 0, made); len(b) > l.Bytes {
		return value.Value{}, api.ErrLong
	}
	return made, nil
}

// P23.1, P23.2: scripts by chance make what the model tells; and without an error the other way makes the value again.
func TestScriptByChance(t *testing.T) {
	s := compiled(t)
	errs := map[error]int{}
	for seed := range uint64(200) {
		m := newMaker(5000 + seed)
		for range 50 {
			v, w := m.held(4), m.held(4)
			if m.IntN(8) == 0 {
				w = m.near(w, 2)
			}
			e := m.to(v, w)
			if m.IntN(8) == 0 {
				v = m.held(4)
			}
			l := decode.Limits{Depth: m.IntN(6), Bytes: m.IntN(60)}
			want, err := modelScript(s, e, v, l)
			holdScript(t, s, scripted{0, e, v, l, want, err})
			errs[err]++
			if err == nil {
				holdScript(t, s, scripted{0, invert.Of(e), want, wide(), v, nil})
			}
		}
	}
	for _, err := range []error{nil, api.ErrDepth, api.ErrLong, api.ErrClash, api.ErrTag, api.ErrKind, api.ErrDup, api.ErrForm} {
		if errs[err] < 20 {
			t.Errorf("only %d of %v", errs[err], err)
		}
	}
}
