package value_test

import (
	"math"
	"slices"
	"strconv"
	"strings"
	"testing"
	"unicode/utf8"

	"douane/api"
	"douane/value"
)

func truth(n int64) api.Value              { return api.Value{Kind: api.Bool, N: n} }
func num(n int64) api.Value                { return api.Value{Kind: api.Int, N: n} }
func sym(s string) api.Value               { return api.Value{Kind: api.Sym, S: s} }
func str(s string) api.Value               { return api.Value{Kind: api.Str, S: s} }
func list(l ...api.Value) api.Value        { return api.Value{Kind: api.List, L: l} }
func times(n int, v api.Value) []api.Value { return slices.Repeat([]api.Value{v}, n) }

// nest is a value in n lists.
func nest(n int, v api.Value) api.Value {
	for range n {
		v = list(v)
	}
	return v
}

// rightFlat are right values that aren't lists, in their order.
func rightFlat() []api.Value {
	l := []api.Value{{}, truth(0), truth(1)}
	for _, n := range []int64{math.MinInt64, math.MinInt64 + 1, -1 << 32, -10, -2, -1, 0, 1, 2, 10, 1 << 32, math.MaxInt64 - 1, math.MaxInt64} {
		l = append(l, num(n))
	}
	for _, s := range []string{"A", "Z", "Z-", "a", "a-", "a-b", "a0", "aA", "a_", "aa", "ab", "b", "false", "null", "true", "z9", strings.Repeat("z", 39), strings.Repeat("z", 40)} {
		l = append(l, sym(s))
	}
	for _, s := range []string{"", "\x00", "\x00\x00", "\n", " ", " 1", "\"", "\"\"", "\"\\", "'", "'a", "1", "1 2", "[", "[]", "\\", "\\\"", "\\\\", "]", "a", "a\x00", "a b", "aa", "ab", "b", "null", strings.Repeat("x", 200), "\x7f", "\u0080", "\u00e9", "\u07ff", "\u0800", "\ud7ff", "\ue000", "\ufffd", "\uffff", "\U00010000", "\U0010ffff"} {
		l = append(l, str(s))
	}
	return l
}

// rightLists are right lists, in no order, none twice.
func rightLists() []api.Value {
	l := []api.Value{list()}
	few := []api.Value{{}, truth(0), num(-1), num(1), num(12), sym("a"), str(""), str("a"), str(" "), list(), list(num(1)), list(list())}
	for _, x := range few {
		l = append(l, list(x))
		for _, y := range few {
			l = append(l, list(x, y), list(list(x, y), list()), nest(1, list(x, y)))
		}
	}
	return append(l, list(num(1), num(2), num(3)), list(list(num(1), num(2)), num(3)), list(num(1), list(num(2), num(3))), list(times(20, str("\\"))...), nest(3, num(12)), nest(4, num(12)), nest(4, str("\"")))
}

// wrong are values that aren't right, none twice, of at most 10 deep.
func wrong() []api.Value {
	l := []api.Value{
		{N: 1}, {N: -1}, {S: "a"}, {L: times(1, num(1))}, {L: times(1, list())},
		truth(2), truth(-1), truth(math.MaxInt64), truth(math.MinInt64), {Kind: api.Bool, N: 1, S: "a"}, {Kind: api.Bool, L: times(1, truth(1))}, {Kind: api.Bool, S: "a"},
		{Kind: api.Int, S: "x"}, {Kind: api.Int, S: "1"}, {Kind: api.Int, N: 1, L: times(1, num(1))}, {Kind: api.Int, L: times(2, api.Value{})},
		{Kind: api.Sym, S: "a", N: 1}, {Kind: api.Sym, S: "a", L: times(1, api.Value{})}, {Kind: api.Sym, N: 1},
		{Kind: api.Str, S: "a", N: 1}, {Kind: api.Str, N: -1}, {Kind: api.Str, L: times(1, str(""))},
		{Kind: api.List, N: 1}, {Kind: api.List, S: "a"}, {Kind: api.List, N: 1, L: times(1, num(1))}, {Kind: api.List, S: "[]", L: times(1, num(1))},
		{Kind: -1}, {Kind: -1, N: 1}, {Kind: 6}, {Kind: 6, L: times(1, num(1))}, {Kind: 7, S: "a"}, {Kind: math.MaxInt}, {Kind: math.MinInt}, {Kind: 256}, {Kind: 1 << 32},
		list(times(21, num(1))...), list(num(1), list(times(21, api.Value{})...)), nest(5, num(1)), nest(4, list()), nest(10, num(1)), list(num(1), nest(5, str("a"))),
	}
	for _, s := range oddNames() {
		l = append(l, sym(s))
	}
	for _, s := range []string{"\xff", "\x80", "a\xc3", "\xc0\x80", "\xed\xa0\x80", "\xf4\x90\x80\x80", "\xe2\x82", "\"\xff", strings.Repeat("a", 201), strings.Repeat("a", 198) + "\u20ac", strings.Repeat("b", 300)} {
		l = append(l, str(s))
	}
	for _, x := range slices.Clone(l) {
		if value.Deep(x) < 8 {
			l = append(l, list(num(0), x), list(list(x), num(1)))
		}
	}
	return l
}

func oddNames() []string {
	l := []string{"", "1", "1a", "_", "_a", "-", "-a", "'a", " a", "a ", "a b", "a.b", "a/", "a:", "a@", "a[", "a`", "a{", "@a", "[a", "`a", "{a", "a\x00", "\x00", "a\n", "a\xff", "\xffa", "\u00e9", "a\u00e9", "\u0430", "a\u0661", "\u212a", strings.Repeat("a", 41), strings.Repeat("a", 400), strings.Repeat("a", 39) + "\u00e9"}
	return l
}

func all() []api.Value { return slices.Concat(rightFlat(), rightLists(), wrong()) }

// key is a row of numbers whose order, number by number, is the values': what begins another one's is ahead of it, as nothing that goes on is below 1.
func key(v api.Value) []int64 {
	k := []int64{int64(v.Kind), v.N}
	for i := range len(v.S) {
		k = append(k, 1+int64(v.S[i]))
	}
	k = append(k, 0)
	for _, x := range v.L {
		k = append(append(k, 1), key(x)...)
	}
	return append(k, 0)
}

// read is the value whose text a text begins with, and what is behind it.
func read(t *testing.T, s string) (api.Value, string) {
	t.Helper()
	end := func(more string) int {
		i := 0
		for i < len(s) && (strings.ContainsRune(more, rune(s[i])) || s[i] >= '0' && s[i] <= '9' || s[i] >= 'a' && s[i] <= 'z' || s[i] >= 'A' && s[i] <= 'Z') {
			i++
		}
		return i
	}
	switch {
	case strings.HasPrefix(s, "null"):
		return api.Value{}, s[4:]
	case strings.HasPrefix(s, "true"):
		return truth(1), s[4:]
	case strings.HasPrefix(s, "false"):
		return truth(0), s[5:]
	case strings.HasPrefix(s, "'"):
		s = s[1:]
		i := end("_-")
		return sym(s[:i]), s[i:]
	case strings.HasPrefix(s, "\""):
		b := ""
		for s = s[1:]; s != "" && s[0] != '"'; s = s[1:] {
			if s[0] == '\\' {
				s = s[1:]
			}
			b += s[:1]
		}
		return str(b), s[1:]
	case strings.HasPrefix(s, "["):
		l := list()
		for s = s[1:]; s[0] != ']'; {
			var x api.Value
			x, s = read(t, s)
			l.L = append(l.L, x)
			if s[0] == ' ' && s[1] != ']' {
				s = s[1:]
			} else if s[0] != ']' {
				t.Fatalf("%q behind a value of a list", s)
			}
		}
		return l, s[1:]
	}
	i := end("-")
	n, err := strconv.ParseInt(s[:i], 10, 64)
	if err != nil {
		t.Fatalf("%q: %v", s, err)
	}
	return num(n), s[i:]
}

// same says whether two values are, thing by thing.
func same(a, b api.Value) bool {
	return a.Kind == b.Kind && a.N == b.N && a.S == b.S && slices.EqualFunc(a.L, b.L, same)
}

func TestP31Right(t *testing.T) {
	for _, v := range append(rightFlat(), rightLists()...) {
		if !value.Right(v) {
			t.Errorf("%v isn't right", v)
		}
		if v := list(v, num(1)); value.Deep(v) <= 4 && !value.Right(v) {
			t.Errorf("%v isn't right", v)
		}
	}
	for _, v := range wrong() {
		if value.Right(v) {
			t.Errorf("%v is right", v)
		}
	}
	if !value.Right(api.Value{L: []api.Value{}}) || !value.Right(api.Value{Kind: api.List, L: []api.Value{}}) || !value.Right(api.Value{Kind: api.Sym, S: "a", L: []api.Value{}}) {
		t.Error("an empty list isn't as none is")
	}
}

func TestP31Limits(t *testing.T) {
	twenty := func(x api.Value) api.Value { return list(times(20, x)...) }
	for i, x := range []struct {
		v  api.Value
		ok bool
	}{
		{twenty(num(1)), true}, {list(times(21, num(1))...), false}, {list(twenty(str("a")), num(1)), true}, {list(list(times(21, str("a"))...), num(1)), false},
		{list(twenty(num(1)), twenty(num(1)), twenty(num(1)), twenty(num(1)), list(times(14, num(1))...)), true},
		{list(twenty(num(1)), twenty(num(1)), twenty(num(1)), twenty(num(1)), list(times(15, num(1))...)), false},
		{list(times(20, list(times(3, num(1))...))...), true}, {list(times(20, list(times(4, num(1))...))...), false}, // 81, 101 nodes
		{list(append(times(19, list(times(4, num(1))...)), list(num(1), num(1), num(1)))...), true}, // 100 nodes
		{nest(4, num(1)), true}, {nest(5, num(1)), false}, {nest(3, list()), true}, {nest(4, list()), false},
		{list(num(1), str("a"), nest(3, list()), num(1)), false}, {list(num(1), str("a"), nest(2, list()), num(1)), true},
		{list(nest(4, num(1)), num(1)), false}, {list(num(1), nest(4, num(1))), false},
		{str(strings.Repeat("\u20ac", 66) + "ab"), true}, {str(strings.Repeat("\u20ac", 66) + "abc"), false}, {str(strings.Repeat("\u00e9", 100)), true}, {str(strings.Repeat("\u00e9", 101)), false},
		{str(strings.Repeat("\"", 200)), true}, {sym(strings.Repeat("n", 40)), true}, {sym(strings.Repeat("n", 41)), false},
		{list(twenty(twenty(num(1))), num(1)), false}, {list(times(1000-1, num(1))...), false},
	} {
		if value.Right(x.v) != x.ok {
			t.Errorf("%d: %v", i, !x.ok)
		}
	}
}

func TestP31Texts(t *testing.T) {
	for a := range 256 {
		for b := range 256 {
			s := string([]byte{byte(a), byte(b)})
			if value.Right(str(s)) != utf8.ValidString(s) {
				t.Errorf("%q", s)
			}
		}
	}
}

func TestP31Deep(t *testing.T) {
	for i, x := range []struct {
		v           api.Value
		deep, nodes int
	}{
		{api.Value{}, 0, 1}, {truth(1), 0, 1}, {num(7), 0, 1}, {sym("a"), 0, 1}, {str("[[]]"), 0, 1}, {list(), 1, 1}, {list(num(1)), 1, 2},
		{list(num(1), sym("a"), str("b")), 1, 4}, {list(list()), 2, 2}, {list(num(1), list(), num(2)), 2, 4}, {list(list(list()), list(), num(1)), 3, 5}, {list(num(1), list(), list(list())), 3, 5},
		{nest(10, num(1)), 10, 11}, {nest(9, list()), 10, 10}, {list(times(999, num(1))...), 1, 1000}, {list(times(9, list(times(110, num(1))...))...), 2, 1000},
		// Of each Kind what is in L counts; a list alone is deeper than that.
		{api.Value{L: times(2, num(1))}, 0, 3}, {api.Value{Kind: api.Int, L: times(2, list())}, 1, 3}, {api.Value{Kind: 9, L: times(1, nest(3, str("a")))}, 3, 5}, {list(api.Value{Kind: api.Str, L: times(3, list())}), 2, 5},
		{api.Value{Kind: -1, L: []api.Value{}}, 0, 1}, {api.Value{Kind: api.List, N: 3, S: "a"}, 1, 1}, {api.Value{Kind: 7}, 0, 1},
	} {
		if d, n := value.Deep(x.v), value.Nodes(x.v); d != x.deep || n != x.nodes {
			t.Errorf("%d: %d deep, %d nodes", i, d, n)
		}
	}
}

func TestP31IsName(t *testing.T) {
	letters := "ABCDEFGHIJKLMNOPQRSTUVWXYZabcdefghijklmnopqrstuvwxyz"
	inside := letters + "0123456789_-"
	for x := range 256 {
		s := string([]byte{byte(x)})
		first, within := strings.Contains(letters, s), strings.Contains(inside, s)
		if value.IsName(s) != first || value.IsName(s+"a") != first || value.IsName("a"+s) != within || value.IsName("a"+s+"b") != within || value.IsName("ab0"+s) != within {
			t.Errorf("%q", s)
		}
		if value.IsName(strings.Repeat("a", 39)+s) != within || value.IsName(strings.Repeat("a", 40)+s) {
			t.Errorf("%q as the last one", s)
		}
	}
	for n := range 100 {
		if value.IsName(strings.Repeat("q", n)) != (n >= 1 && n <= 40) {
			t.Errorf("%d bytes", n)
		}
	}
	for _, s := range oddNames() {
		if value.IsName(s) {
			t.Errorf("%q", s)
		}
	}
}

func TestP32Compare(t *testing.T) {
	l := all()
	for _, a := range l {
		for _, b := range l {
			if want := slices.Compare(key(a), key(b)); value.Compare(a, b) != want || value.Same(a, b) != (want == 0) {
				t.Fatalf("%v and %v: %d", a, b, value.Compare(a, b))
			}
		}
	}
}

func TestP32Order(t *testing.T) {
	// Each is ahead of all behind it, whatever counts less says.
	l := []api.Value{
		{Kind: math.MinInt, N: 5}, {Kind: -1, S: "z"}, {N: -1, S: "b"}, {}, {L: times(1, list())}, {S: "a"}, {N: 1}, truth(math.MinInt64), truth(0), truth(1), truth(2), num(math.MinInt64), num(-10), num(-9), num(2), num(10), num(math.MaxInt64),
		sym(""), sym("-"), sym("B"), sym("a"), {Kind: api.Sym, S: "a", L: times(1, api.Value{})}, sym("a-"), sym("ab"), sym("b"), {Kind: api.Sym, N: 1}, {Kind: api.Str, N: -1, S: "z"}, str(""), str("a"), str("ab"), str("b"), str("b\x00"), str("\x7f"), str("\u0080"), str("\u0100"), str("\xff"), str("\xff\x00"),
		list(), list(api.Value{}), list(api.Value{}, api.Value{}), list(num(1)), list(num(1), num(0)), list(num(1), num(0), num(0)), list(num(1), num(1)), list(num(2)), list(num(10)), list(sym("b")), list(str("a")), list(list()), list(list(num(1)), num(5)), list(list(num(2))), list(api.Value{Kind: 6}), {Kind: api.List, S: "a"}, {Kind: api.List, N: 1}, {Kind: 6}, {Kind: 6, L: times(1, num(1))}, {Kind: math.MaxInt},
	}
	for i, a := range l {
		for j, b := range l {
			want := 0
			if i < j {
				want = -1
			} else if i > j {
				want = 1
			}
			if value.Compare(a, b) != want || value.Same(a, b) != (i == j) {
				t.Errorf("%d and %d: %d", i, j, value.Compare(a, b))
			}
		}
	}
	empty := api.Value{Kind: api.List, L: []api.Value{}}
	if !value.Same(empty, list()) || !value.Same(list(empty, num(1)), list(list(), num(1))) {
		t.Error("nil and empty lists aren't the same")
	}
}

func TestP32Text(t *testing.T) {
	for i, x := range []struct {
		v    api.Value
		text string
	}{
		{api.Value{}, "null"}, {truth(0), "false"}, {truth(1), "true"}, {truth(2), "true"}, {truth(-1), "true"}, {num(0), "0"}, {num(-120), "-120"}, {num(math.MinInt64), "-9223372036854775808"}, {num(math.MaxInt64), "9223372036854775807"},
		{sym("ab-1"), "'ab-1"}, {sym(""), "'"}, {sym("a'\"\\ \xff"), "'a'\"\\ \xff"}, {str(""), `""`}, {str(`a "b"`), `"a \"b\""`}, {str(`\`), `"\\"`}, {str(`\"`), `"\\\""`}, {str("a\n\x00\t'[ ]\u20ac/"), "\"a\n\x00\t'[ ]\u20ac/\""}, {str("\xff\xc0\""), "\"\xff\xc0\\\"\""},
		{list(), "[]"}, {list(num(1)), "[1]"}, {list(num(1), str(`a "b"`)), `[1 "a \"b\""]`}, {list(num(1), sym("a"), api.Value{}, truth(1)), "[1 'a null true]"}, {list(list(), list(num(1), list(num(2))), num(3)), "[[] [1 [2]] 3]"}, {nest(10, num(1)), "[[[[[[[[[[1]]]]]]]]]]"},
		{api.Value{Kind: 6}, ""}, {api.Value{Kind: -1, N: 1, S: "a", L: times(1, num(1))}, ""}, {list(api.Value{Kind: 7}), "[]"}, {list(num(1), api.Value{Kind: 7}, num(2)), "[1  2]"}, {list(api.Value{Kind: 7}, num(2)), "[ 2]"}, {list(list(api.Value{Kind: -7, S: "x"}, api.Value{Kind: 6}), sym("a")), "[[ ] 'a]"},
		{api.Value{N: 1, S: "a"}, "null"}, {api.Value{Kind: api.Int, N: 5, S: "x", L: times(1, num(1))}, "5"}, {api.Value{Kind: api.Bool, S: "x"}, "false"}, {api.Value{Kind: api.Sym, S: "a", N: 5}, "'a"}, {api.Value{Kind: api.Str, S: "a", L: times(1, num(1))}, `"a"`}, {api.Value{Kind: api.List, N: 1, S: "a"}, "[]"},
	} {
		if s := value.Text(x.v); s != x.text {
			t.Errorf("%d: %q", i, s)
		}
	}
}

func TestP32Copy(t *testing.T) {
	for _, v := range all() {
		if c := value.Copy(v); !same(c, v) || !value.Same(c, v) {
			t.Errorf("%v is %v as a copy", v, c)
		}
	}
}

// TestP32New writes all over a copy, and over what it is of, to see whether the one is in the other, spare room too.
func TestP32New(t *testing.T) {
	build := func() api.Value {
		inner := append(make([]api.Value, 0, 9), num(1), str("a"), list(sym("b")))
		return list(append(make([]api.Value, 0, 7), num(5), list(inner...), api.Value{Kind: api.Int, L: times(2, num(3))}, list(inner[:2]...))...)
	}
	var fill func(v api.Value)
	fill = func(v api.Value) {
		for _, x := range v.L {
			fill(x)
		}
		l := v.L[:cap(v.L)]
		for i := range l {
			l[i] = sym("over")
		}
	}
	v := build()
	c := value.Copy(v)
	fill(c)
	if !same(v, build()) {
		t.Errorf("what was copied is %v", v)
	}
	c = value.Copy(v)
	fill(v)
	if !same(c, build()) {
		t.Errorf("the copy is %v", c)
	}
	shared := times(2, num(1))
	c = value.Copy(list(list(shared...), list(shared...), api.Value{Kind: api.List, L: shared}, api.Value{Kind: api.List, L: shared}))
	fill(c.L[2])
	if !same(c.L[3], list(shared...)) {
		t.Error("two lists of a copy are one")
	}
}

func TestP32Unchanged(t *testing.T) {
	l := all()
	for _, v := range l {
		value.Right(v)
		value.Deep(v)
		value.Nodes(v)
		value.Text(v)
		value.Copy(v)
		value.Compare(v, value.Copy(v))
		value.Same(value.Copy(v), v)
	}
	for i, v := range all() {
		if !same(l[i], v) {
			t.Errorf("%v was %v", l[i], v)
		}
	}
}

func TestP33(t *testing.T) {
	l := rightFlat()
	if !slices.IsSortedFunc(l, value.Compare) {
		t.Error("values in their order aren't in it")
	}
	l = all()
	for i, a := range l {
		for j, b := range l {
			x, y := value.Compare(a, b), value.Compare(b, a)
			if x != -y || x < -1 || x > 1 || (x == 0) != (i == j) {
				t.Fatalf("%v and %v: %d, %d", a, b, x, y)
			}
		}
	}
	// Ahead goes on: in a row put in order by it, each is ahead of all behind it.
	slices.SortFunc(l, value.Compare)
	for i, a := range l {
		for _, b := range l[i+1:] {
			if value.Compare(a, b) != -1 {
				t.Fatalf("%v isn't ahead of %v", a, b)
			}
		}
	}
}

func TestP34(t *testing.T) {
	l := append(rightFlat(), rightLists()...)
	texts := map[string]api.Value{}
	for _, v := range l {
		s := value.Text(v)
		if w, ok := texts[s]; ok {
			t.Errorf("%v and %v: %q", v, w, s)
		}
		texts[s] = v
		if value.Text(value.Copy(v)) != s {
			t.Errorf("%v has two texts", v)
		}
		if w, rest := read(t, s); !same(v, w) || rest != "" {
			t.Errorf("%q is read as %v, with %q behind it", s, w, rest)
		}
	}
}
