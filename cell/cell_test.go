package cell_test

import (
	"cmp"
	library "encoding/json"
	"fmt"
	"math"
	"math/rand/v2"
	"reflect"
	"regexp"
	"slices"
	"strconv"
	"strings"
	"testing"
	"unicode/utf8"
	"unsafe"

	"douane/api"
	"douane/cell"
	"douane/json"
	"douane/value"
	"douane/vtext"
)

// The bits of kinds.
const (
	nu   = 1 << api.Null
	bo   = 1 << api.Bool
	in   = 1 << api.Int
	sy   = 1 << api.Sym
	st   = 1 << api.Str
	li   = 1 << api.List
	any6 = 63
)

// Values, written short.
var (
	null = api.Value{}
	no   = api.Value{Kind: api.Bool}
	yes  = api.Value{Kind: api.Bool, N: 1}
)

func num(n int64) api.Value                { return api.Value{Kind: api.Int, N: n} }
func sym(s string) api.Value               { return api.Value{Kind: api.Sym, S: s} }
func str(s string) api.Value               { return api.Value{Kind: api.Str, S: s} }
func list(l ...api.Value) api.Value        { return api.Value{Kind: api.List, L: l} }
func times(n int, v api.Value) []api.Value { return slices.Repeat([]api.Value{v}, n) }

// nest is a value in so many lists.
func nest(n int, v api.Value) api.Value {
	for range n {
		v = list(v)
	}
	return v
}

// Things, written short.
func text(s string) api.Json              { return api.Json{Kind: api.Str, S: s} }
func whole(n int64) api.Json              { return api.Json{Kind: api.Int, N: n} }
func array(l ...api.Json) api.Json        { return api.Json{Kind: api.List, L: l} }
func many(n int, x api.Json) []api.Json   { return slices.Repeat([]api.Json{x}, n) }
func named(s string, x api.Json) api.Json { return object([]string{s}, x) }

// object is an Obj of names and things.
func object(names []string, l ...api.Json) api.Json {
	return api.Json{Kind: api.Obj, Names: names, L: l}
}

// within is a thing in so many Lists.
func within(n int, x api.Json) api.Json {
	for range n {
		x = array(x)
	}
	return x
}

// shape is all that there is in a value, nil and empty the same.
func shape(v api.Value) string {
	var b strings.Builder
	fmt.Fprintf(&b, "%d,%d,%q(", v.Kind, v.N, v.S)
	for _, x := range v.L {
		b.WriteString(shape(x))
	}
	return b.String() + ")"
}

// form is all that there is in what may be a thing, nil and empty the same.
func form(x api.Json) string {
	var b strings.Builder
	fmt.Fprintf(&b, "%d,%d,%q,%d%q(", x.Kind, x.N, x.S, len(x.Names), x.Names)
	for _, y := range x.L {
		b.WriteString(form(y))
	}
	return b.String() + ")"
}

// told is what comes of a call that answers a value.
type told struct {
	v string
	e api.Errno
}

// good is what comes of what has a value, bad of what has none.
func good(v api.Value) told { return told{shape(v), api.OK} }
func bad(e api.Errno) told  { return told{shape(null), e} }

// ofJson is what OfJson answers.
func ofJson(x api.Json) told {
	v, e := cell.OfJson(x)
	return told{shape(v), e}
}

// ofField is what OfField answers.
func ofField(s api.Slot, field string) told {
	v, e := cell.OfField(s, field)
	return told{shape(v), e}
}

// takes is a slot of some kinds.
func takes(types int) api.Slot { return api.Slot{Name: "a", Types: types} }

// parsed is the thing of a text.
func parsed(t *testing.T, s string) api.Json {
	t.Helper()
	x, at, e := json.Parse(s, 20)
	if e != api.OK {
		t.Fatalf("%q is wrong at %d: %d", s, at, e)
	}
	return x
}

// rightValues are right values of all kinds, some at the limits.
func rightValues() []api.Value {
	return []api.Value{
		null, no, yes, num(0), num(1), num(-1), num(math.MinInt64), num(math.MaxInt64),
		sym("a"), sym("Z"), sym("sym"), sym("null"), sym("a-1_B"), sym(strings.Repeat("z", 40)),
		str(""), str("a"), str("sym"), str("null"), str("1"), str("'a"), str(`"a"`), str("[]"), str("\"\\\n\x00,\r"), str("\u00e9\u20ac\U0010FFFF"), str(strings.Repeat("x", 200)), str(strings.Repeat("\u20ac", 66) + "ab"), str(strings.Repeat(`"`, 200)),
		list(), list(num(1), sym("s"), str("a"), null, no, yes), list(list(), list(sym("a"))), nest(3, list()), nest(4, sym("a")), list(times(20, sym("b"))...), list(times(4, list(times(20, sym("c"))...))...),
	}
}

// wrongValues are values that aren't right, of all kinds, and of none.
func wrongValues() []api.Value {
	row := list(times(20, num(1))...)
	l := []api.Value{
		{N: 1}, {S: "a"}, {L: times(1, null)}, {Kind: api.Bool, N: 2}, {Kind: api.Bool, N: -1}, {Kind: api.Bool, S: "a"}, {Kind: api.Bool, L: times(1, null)}, {Kind: api.Int, S: "1"}, {Kind: api.Int, L: times(1, null)},
		sym(""), sym("1"), sym("_"), sym("a b"), sym("'a"), sym("\u00e9"), sym(strings.Repeat("z", 41)), {Kind: api.Sym, S: "a", N: 1}, {Kind: api.Sym, S: "a", L: times(1, null)},
		str("\xff"), str("\xed\xa0\x80"), str(strings.Repeat("x", 201)), str(strings.Repeat("\u20ac", 67)), {Kind: api.Str, S: "a", N: 1}, {Kind: api.Str, S: "a", L: times(1, null)},
		{Kind: api.List, N: 1}, {Kind: api.List, S: "a"}, list(times(21, null)...), nest(5, null), nest(4, list()), nest(9, list()), list(row, row, row, row, row), list(append(times(4, row), times(16, num(1))...)...),
		{Kind: 6}, {Kind: 6, S: "a"}, {Kind: 7}, {Kind: 9}, {Kind: -1}, {Kind: 64}, {Kind: math.MaxInt}, {Kind: math.MinInt},
	}
	for _, v := range l {
		l = append(l, list(v), list(num(1), list(sym("a"), v), num(2)))
	}
	return l
}

// TestP151Written: P15.1, values and their things, written out, both ways.
func TestP151Written(t *testing.T) {
	for s, v := range map[string]api.Value{
		"null": null, "false": no, "true": yes, "0": num(0), "-5": num(-5), "9223372036854775807": num(math.MaxInt64), "-9223372036854775808": num(math.MinInt64),
		`{"sym":"a"}`: sym("a"), `{"sym":"sym"}`: sym("sym"), `{"sym":"A-1_z"}`: sym("A-1_z"), `{"sym":"null"}`: sym("null"), `{"sym":"` + strings.Repeat("n", 40) + `"}`: sym(strings.Repeat("n", 40)),
		`""`: str(""), `"a"`: str("a"), `"sym"`: str("sym"), `"null"`: str("null"), `"'a"`: str("'a"), `"\"\\"`: str(`"\`), `"\u000a"`: str("\n"), "\"\u00e9\U0010FFFF\"": str("\u00e9\U0010FFFF"), `"` + strings.Repeat("x", 200) + `"`: str(strings.Repeat("x", 200)),
		"[]": list(), "[null]": list(null), "[[]]": list(list()), "[1,2]": list(num(1), num(2)), `[null,true,-5,{"sym":"ab"},"x\"",[]]`: list(null, yes, num(-5), sym("ab"), str(`x"`), list()),
		`[{"sym":"a"},{"sym":"a"},"a"]`: list(sym("a"), sym("a"), str("a")), `[[{"sym":"b"}],[[false]],{"sym":"c"}]`: list(list(sym("b")), nest(2, no), sym("c")),
		"[[[[]]]]": nest(3, list()), `[[[[{"sym":"a"}]]]]`: nest(4, sym("a")), `[[[["a"],[]]]]`: nest(2, list(nest(1, str("a")), list())),
	} {
		got, e := json.Print(cell.ToJson(v))
		if got != s || e != api.OK {
			t.Errorf("ToJson(%s): %s %d, not %s", shape(v), got, e, s)
		}
		if got := ofJson(parsed(t, s)); got != good(v) {
			t.Errorf("OfJson(%s): %v, not %s", s, got, shape(v))
		}
	}
	for s, v := range map[string]api.Value{" { \"sym\" : \"a\" } ": sym("a"), `{"\u0073ym":"\u0061b"}`: sym("ab"), "-0": num(0), `"\u00e9"`: str("\u00e9"), "[ 1 ,\n{\"s\\u0079m\":\"q\"}]": list(num(1), sym("q"))} {
		if got := ofJson(parsed(t, s)); got != good(v) {
			t.Errorf("OfJson(%s): %v, not %s", s, got, shape(v))
		}
	}
}

// plain is a value as the library's JSON tells it.
func plain(v api.Value) any {
	switch v.Kind {
	case api.Bool:
		return v.N == 1
	case api.Int:
		return library.Number(strconv.FormatInt(v.N, 10))
	case api.Sym:
		return map[string]any{"sym": v.S}
	case api.Str:
		return v.S
	case api.List:
		l := []any{}
		for _, x := range v.L {
			l = append(l, plain(x))
		}
		return l
	}
	return nil
}

// TestP151Library: P15.1, things of right values as the library reads their texts.
func TestP151Library(t *testing.T) {
	for _, v := range rightValues() {
		s, e := json.Print(cell.ToJson(v))
		d := library.NewDecoder(strings.NewReader(s))
		d.UseNumber()
		var got any
		if err := d.Decode(&got); err != nil || e != api.OK || !reflect.DeepEqual(got, plain(v)) {
			t.Errorf("ToJson(%s): %s %d %v", shape(v), s, e, err)
		}
	}
}

// TestP151NotRight: P15.1, Null of values that aren't right, whatever in them isn't.
func TestP151NotRight(t *testing.T) {
	for _, v := range wrongValues() {
		if got := form(cell.ToJson(v)); got != form(api.Json{}) {
			t.Errorf("ToJson(%s): %s", shape(v), got)
		}
	}
}

// otherObjects are Objs that are things, but no Sym's.
func otherObjects() []api.Json {
	l := []api.Json{object(nil)}
	for _, s := range []string{"", "1", "_", "-", "-a", "9a", "a b", " a", "a ", "a.b", "'a", "\"", "a\x00", "\u00e9", "a\u00e9", strings.Repeat("n", 41), strings.Repeat("n", 300)} {
		l = append(l, named("sym", text(s)))
	}
	for _, x := range []api.Json{{}, {Kind: api.Bool}, {Kind: api.Bool, N: 1}, whole(0), whole(1), array(), array(text("a")), object(nil), named("sym", text("a")), named("a", text("a"))} {
		l = append(l, named("sym", x))
	}
	for _, s := range []string{"", "a", "s", "Sym", "SYM", "syms", " sym", "sym ", "'sym", "str", "\u00e9"} {
		l = append(l, named(s, text("a")))
	}
	for _, names := range [][]string{{"sym", "a"}, {"a", "sym"}, {"sym", ""}, {"a", "b"}, {"sym", "a", "b"}, {"a", "sym", "b"}, {"a", "b", "sym"}} {
		l = append(l, object(names, many(len(names), text("a"))...))
	}
	return append(l, object([]string{"sym", "b"}, text("a"), whole(1)), object([]string{"b", "sym"}, api.Json{}, text("a")), object([]string{"sym", "b"}, text("a"), object(nil)))
}

// noThings are no things, some nearly.
func noThings() []api.Json {
	a := named("sym", text("a"))
	return []api.Json{
		{Kind: api.Sym}, {Kind: api.Sym, S: "a"}, {Kind: 7}, {Kind: 9}, {Kind: -1}, {Kind: math.MaxInt}, {Kind: math.MinInt},
		{N: 1}, {S: "a"}, {Names: []string{"a"}}, {L: many(1, a)}, {Kind: api.Bool, N: 2}, {Kind: api.Bool, N: -1}, {Kind: api.Bool, S: "a"}, {Kind: api.Bool, Names: []string{"a"}}, {Kind: api.Bool, L: many(1, a)},
		{Kind: api.Int, S: "1"}, {Kind: api.Int, Names: []string{"a"}}, {Kind: api.Int, L: many(1, a)}, text("\xff"), text("a\xc3"), text("\xed\xa0\x80"), text(strings.Repeat("x", 200) + "\xff"), {Kind: api.Str, S: "a", N: 1}, {Kind: api.Str, S: "a", Names: []string{"a"}}, {Kind: api.Str, S: "a", L: many(1, a)},
		{Kind: api.List, N: 1}, {Kind: api.List, S: "a"}, {Kind: api.List, Names: []string{"a"}}, {Kind: api.List, Names: []string{"sym"}, L: many(1, text("a"))},
		{Kind: api.Obj, N: 1, Names: a.Names, L: a.L}, {Kind: api.Obj, S: "a", Names: a.Names, L: a.L}, {Kind: api.Obj, Names: a.Names}, {Kind: api.Obj, L: a.L}, {Kind: api.Obj, Names: a.Names, L: many(2, text("a"))}, {Kind: api.Obj, Names: []string{"sym", "b"}, L: a.L}, {Kind: api.Obj, Names: []string{"sym", "sym"}, L: many(2, text("a"))}, named("\xff", text("a")), named("sym", text("\xff")), named("sym", api.Json{Kind: api.Str, S: "a", N: 1}), named("sym", api.Json{Kind: api.Sym, S: "a"}),
	}
}

// TestP151Type: P15.1, ErrType of Objs that aren't so, and of what is no thing, wherever it stands, and whatever else is wrong.
func TestP151Type(t *testing.T) {
	long, deep := text(strings.Repeat("x", 201)), within(5, array())
	for _, x := range slices.Concat(otherObjects(), noThings()) {
		for n := range 9 {
			if got := ofJson(within(n, x)); got != bad(api.ErrType) {
				t.Errorf("OfJson(%s): %v", form(within(n, x)), got)
			}
		}
		for _, y := range []api.Json{array(whole(1), x), array(x, whole(1)), array(named("sym", text("a")), x, named("sym", text("b"))), array(array(), array(whole(2), array(x)), array()), array(long, x), array(x, long), array(deep, x), array(x, deep), array(append(many(21, whole(1)), x)...), array(append(many(1, x), many(120, whole(1))...)...)} {
			if got := ofJson(y); got != bad(api.ErrType) {
				t.Errorf("OfJson(%s): %v", form(y), got)
			}
		}
	}
}

// TestP151Deep: P15.1, how deep a value may be: a Sym's Obj counts nothing; what is too deep is told ahead of what is too long.
func TestP151Deep(t *testing.T) {
	for _, v := range []api.Value{null, yes, num(7), sym("a"), str("a"), str(""), list()} {
		x, room := cell.ToJson(v), 4-value.Deep(v)
		for n := range 9 {
			want := good(nest(n, v))
			if n > room {
				want = bad(api.ErrDeep)
			}
			if got := ofJson(within(n, x)); got != want {
				t.Errorf("OfJson(%s): %v, not %v", form(within(n, x)), got, want)
			}
			if got := ofJson(array(whole(1), within(n, x), whole(2))); (got.e == api.OK) != (n < room) || got.e != api.OK && got != bad(api.ErrDeep) {
				t.Errorf("OfJson of %s among others: %v", form(within(n, x)), got)
			}
		}
	}
	long, row := text(strings.Repeat("x", 201)), array(many(21, whole(1))...)
	for _, x := range []api.Json{within(5, long), within(4, row), within(4, array(many(100, whole(1))...)), array(long, within(4, array())), array(within(4, array()), long), array(row, within(4, whole(1))), array(append(many(200, whole(1)), within(4, whole(1)))...), within(9, long)} {
		if got := ofJson(x); got != bad(api.ErrDeep) {
			t.Errorf("OfJson(%s): %v", form(x), got)
		}
	}
}

// TestP151Long: P15.1, things that go as far as a right value may, each with one that goes beyond.
func TestP151Long(t *testing.T) {
	a, euros := named("sym", text("a")), strings.Repeat("\u20ac", 66)
	row := func(n int, x api.Json) api.Json { return array(many(n, x)...) }
	grid := func(rows int, x api.Json, behind ...api.Json) api.Json {
		return array(append(many(rows, row(19, x)), behind...)...)
	}
	for _, c := range []struct{ right, wrong api.Json }{
		{text(strings.Repeat("x", 200)), text(strings.Repeat("x", 201))},
		{text(euros + "ab"), text(euros + "abc")},
		{text(strings.Repeat("\n", 200)), text(strings.Repeat("\n", 201))},
		{array(text(strings.Repeat("x", 200))), array(text(strings.Repeat("x", 201)))},
		{within(4, text(euros)), within(4, text(euros+"\u20ac"))},
		{array(text(euros), whole(1)), array(whole(1), text(euros+"\u20ac"))},
		{row(20, whole(1)), row(21, whole(1))},
		{row(20, a), row(21, a)},
		{row(20, array()), row(21, array())},
		{within(3, row(20, a)), within(3, row(21, a))},
		{array(row(20, a), row(2, a)), array(row(2, a), row(21, a))},
		// These have 100 nodes, and 101; of a Sym's Obj and Str just one counts.
		{grid(4, whole(1), row(18, whole(1))), grid(4, whole(1), row(19, whole(1)))},
		{grid(4, a, row(18, a)), grid(4, a, row(19, a))},
		{grid(4, a, row(17, a), array()), grid(4, a, row(17, a), array(a))},
		{grid(4, array(), row(2, row(8, a))), grid(4, array(), row(2, row(8, a)), a)},
		{row(19, row(4, a)), row(20, row(4, a))},
	} {
		v, e := cell.OfJson(c.right)
		if e != api.OK || !value.Right(v) || form(cell.ToJson(v)) != form(c.right) {
			t.Errorf("OfJson(%s): %s %d", form(c.right), shape(v), e)
		}
		if got := ofJson(c.wrong); got != bad(api.ErrLong) {
			t.Errorf("OfJson(%s): %v", form(c.wrong), got)
		}
	}
	for _, x := range []api.Json{row(999, whole(1)), row(400, a), row(30, row(31, whole(1))), text(strings.Repeat("x", 100000)), row(300, text(strings.Repeat("x", 300)))} {
		if got := ofJson(x); got != bad(api.ErrLong) {
			t.Errorf("OfJson of %.60s: %v", form(x), got)
		}
	}
}

var name = regexp.MustCompile(`^[A-Za-z][A-Za-z0-9_-]{0,39}$`)

// says is what OfJson must answer, by the chapter's words.
func says(x api.Json) told {
	deep, nodes, typed, short := 0, 0, json.Right(x), true
	var walk func(x api.Json, lists int) api.Value
	walk = func(x api.Json, lists int) api.Value {
		nodes++
		short = short && len(x.S) <= 200 && len(x.L) <= 20
		switch x.Kind {
		case api.Obj:
			typed = typed && len(x.L) == 1 && x.Names[0] == "sym" && x.L[0].Kind == api.Str && name.MatchString(x.L[0].S)
			if typed {
				return sym(x.L[0].S)
			}
		case api.List:
			deep = max(deep, lists+1)
			v := list()
			for _, y := range x.L {
				v.L = append(v.L, walk(y, lists+1))
			}
			return v
		}
		return api.Value{Kind: x.Kind, N: x.N, S: x.S}
	}
	v := walk(x, 0)
	switch {
	case !typed:
		return bad(api.ErrType)
	case deep > 4:
		return bad(api.ErrDeep)
	case !short || nodes > 100:
		return bad(api.ErrLong)
	}
	return good(v)
}

// TestP151All: P15.1, all lists of up to three of some things, right and wrong ones, within up to five more, against the chapter's words.
func TestP151All(t *testing.T) {
	some := []api.Json{{}, {Kind: api.Bool, N: 1}, whole(-5), text("a"), text("\u00e9"), array(), named("sym", text("a")), array(named("sym", text("b"))), within(2, whole(1)), array(many(20, text("x"))...), array(many(3, array(many(19, whole(2))...))...),
		object(nil), named("sym", text("1")), named("s", text("a")), text(strings.Repeat("x", 201)), text("\xff"), {Kind: api.Sym, S: "a"}, array(many(21, whole(0))...)}
	codes := map[api.Errno]int{}
	var on func(l []api.Json)
	on = func(l []api.Json) {
		for n := range 6 {
			x := within(n, array(l...))
			got := ofJson(x)
			if want := says(x); got != want {
				t.Fatalf("OfJson(%s): %v, not %v", form(x), got, want)
			}
			codes[got.e]++
		}
		if len(l) < 3 {
			for _, x := range some {
				on(append(slices.Clip(l), x))
			}
		}
	}
	on(nil)
	for _, e := range []api.Errno{api.OK, api.ErrType, api.ErrDeep, api.ErrLong} {
		if codes[e] < 100 {
			t.Errorf("error %d comes %d times", e, codes[e])
		}
	}
}

// someTypes are all kinds' bits together, and numbers that are none's, or more.
func someTypes() []int {
	var l []int
	for n := range 64 {
		l = append(l, n)
	}
	return append(l, -1, -st, -sy, 64, 64|st, 64|sy, 128|sy, math.MaxInt, math.MinInt, math.MinInt|st, math.MinInt|sy)
}

// TestP152Written: P15.2, fields and their values, written out, both ways.
func TestP152Written(t *testing.T) {
	for _, c := range []struct {
		types int
		field string
		v     api.Value
	}{
		{st, "null", str("null")}, {st, "", str("")}, {st, "a", str("a")}, {st, " a ", str(" a ")}, {st, `"a"`, str(`"a"`)}, {st, `\"`, str(`\"`)}, {st, "'a", str("'a")}, {st, "12", str("12")}, {st, "[", str("[")}, {st, "a,b\r\n\"", str("a,b\r\n\"")}, {st, "\x00", str("\x00")}, {st, "\u00e9", str("\u00e9")}, {st, strings.Repeat("x", 200), str(strings.Repeat("x", 200))}, {st, strings.Repeat(`"`, 200), str(strings.Repeat(`"`, 200))},
		{sy, "a", sym("a")}, {sy, "null", sym("null")}, {sy, "true", sym("true")}, {sy, "Z-9_", sym("Z-9_")}, {sy, strings.Repeat("n", 40), sym(strings.Repeat("n", 40))},
		{sy | st, "'a", sym("a")}, {sy | st, `"a"`, str("a")}, {sy | st, `"'a"`, str("'a")}, {sy | st, `""`, str("")}, {sy | st, `"a\"\\"`, str(`a"\`)}, {st | nu, "null", null}, {st | nu, `"null"`, str("null")}, {st | nu, `""`, str("")}, {sy | nu, "null", null}, {sy | nu, "'null", sym("null")},
		{nu, "null", null}, {bo, "true", yes}, {bo, "false", no}, {in, "12", num(12)}, {in, "-5", num(-5)}, {in, "0", num(0)}, {in, "9223372036854775807", num(math.MaxInt64)}, {in, "-9223372036854775808", num(math.MinInt64)},
		{li, "[]", list()}, {li, "[1 'a]", list(num(1), sym("a"))}, {li, `["a" [null true] "]"]`, list(str("a"), list(null, yes), str("]"))}, {li, "[[[[]]]]", nest(3, list())}, {li, "[[[['a]]]]", nest(4, sym("a"))},
		{any6, "null", null}, {any6, "'a", sym("a")}, {any6, `"a"`, str("a")}, {any6, "[]", list()}, {st | in, "12", num(12)}, {st | in, `"12"`, str("12")}, {sy | li, "'a", sym("a")}, {64 | st, `"a"`, str("a")}, {64 | sy, "'a", sym("a")},
	} {
		s := takes(c.types)
		if got := cell.ToField(s, c.v); got != c.field {
			t.Errorf("%d: ToField(%s): %q, not %q", c.types, shape(c.v), got, c.field)
		}
		if got := ofField(s, c.field); got != good(c.v) {
			t.Errorf("%d: OfField(%q): %v, not %s", c.types, c.field, got, shape(c.v))
		}
	}
}

// TestP152Fits: P15.2, right values of all slots: the text or the name of a Str or a Sym alone, the value's text of others, and nothing of what doesn't fit.
func TestP152Fits(t *testing.T) {
	for _, types := range someTypes() {
		s := takes(types)
		for _, v := range rightValues() {
			want := ""
			switch {
			case types&(1<<v.Kind) == 0:
			case types == 8 || types == 16:
				want = v.S
			default:
				want = value.Text(v)
			}
			if got := cell.ToField(s, v); got != want {
				t.Errorf("%d: ToField(%s): %q, not %q", types, shape(v), got, want)
			}
		}
		for _, v := range wrongValues() {
			if got := cell.ToField(s, v); got != "" {
				t.Errorf("%d: ToField(%s): %q", types, shape(v), got)
			}
		}
	}
}

// TestP152Wrong: P15.2, each error, written out; layer 14's is told ahead of that a value doesn't fit.
func TestP152Wrong(t *testing.T) {
	for _, c := range []struct {
		types int
		field string
		e     api.Errno
	}{
		{st, strings.Repeat("x", 201), api.ErrLong}, {st, strings.Repeat("\u20ac", 67), api.ErrLong}, {st, "\xff", api.ErrLong}, {st, "a\xc3", api.ErrLong}, {st, "\xed\xa0\x80", api.ErrLong}, {st, strings.Repeat("x", 100000), api.ErrLong},
		{sy, "", api.ErrType}, {sy, "1", api.ErrType}, {sy, "'a", api.ErrType}, {sy, `"a"`, api.ErrType}, {sy, " a", api.ErrType}, {sy, "a ", api.ErrType}, {sy, "_a", api.ErrType}, {sy, "a\x00", api.ErrType}, {sy, "\u00e9", api.ErrType}, {sy, "\xff", api.ErrType}, {sy, "[]", api.ErrType}, {sy, strings.Repeat("n", 41), api.ErrType}, {sy, strings.Repeat("n", 100000), api.ErrType},
		{in, "", api.ErrForm}, {in, "x", api.ErrForm}, {in, " 1", api.ErrForm}, {in, "1 ", api.ErrForm}, {in, "01", api.ErrForm}, {in, "-0", api.ErrForm}, {in, "1.5", api.ErrForm}, {in, "+1", api.ErrForm}, {in, "9223372036854775808", api.ErrNum}, {in, "-9223372036854775809", api.ErrNum}, {in, "null", api.ErrType}, {in, "true", api.ErrType}, {in, `"1"`, api.ErrType}, {in, "'a", api.ErrType}, {in, "[1]", api.ErrType},
		{bo, "1", api.ErrType}, {bo, "True", api.ErrForm}, {nu, "0", api.ErrType}, {nu, "", api.ErrForm}, {nu, "nul", api.ErrForm}, {nu | in, "'a", api.ErrType},
		{li, "null", api.ErrType}, {li, "[1  2]", api.ErrForm}, {li, "[1", api.ErrForm}, {li, "[1] ", api.ErrForm}, {li, "[1,2]", api.ErrForm}, {li, "[9223372036854775808]", api.ErrNum}, {li, "[[[[[]]]]]", api.ErrDeep}, {li, "[\"\xff\"]", api.ErrLong}, {li, "[" + strings.Repeat("1 ", 20) + "1]", api.ErrLong}, {li, `["` + strings.Repeat("x", 201) + `"]`, api.ErrLong},
		{st | nu, "", api.ErrForm}, {st | nu, "a", api.ErrForm}, {st | nu, "\"\xff\"", api.ErrLong}, {st | nu, `"` + strings.Repeat("x", 201) + `"`, api.ErrLong}, {st | nu, "1", api.ErrType}, {st | in, "'a", api.ErrType}, {st | li, "a", api.ErrForm}, {sy | nu, "a", api.ErrForm}, {sy | nu, `"a"`, api.ErrType}, {sy | st, "a", api.ErrForm}, {sy | st, "", api.ErrForm}, {sy | st, "'1", api.ErrForm}, {sy | st, "null", api.ErrType},
		{0, "1", api.ErrType}, {0, "null", api.ErrType}, {0, "", api.ErrForm}, {64, "'a", api.ErrType}, {64 | st, "a", api.ErrForm}, {64 | sy, "a", api.ErrForm}, {math.MinInt, "null", api.ErrType},
		// What doesn't fit isn't asked of what is wrong.
		{in, "[[[[[]]]]]", api.ErrDeep}, {in, "\"\xff\"", api.ErrLong}, {in, "'1", api.ErrForm}, {nu, "9223372036854775808", api.ErrNum}, {0, "[[[[[]]]]]", api.ErrDeep}, {0, "[\"\xff\"]", api.ErrLong}, {0, "99999999999999999999", api.ErrNum}, {sy, "[[[[[]]]]]", api.ErrType}, {sy, "9223372036854775808", api.ErrType},
	} {
		if got := ofField(takes(c.types), c.field); got != bad(c.e) {
			t.Errorf("%d: OfField(%q): %v, not %d", c.types, c.field, got, c.e)
		}
	}
}

// stands is what OfField must answer, by the chapter's words, what Parse tells being right.
func stands(types int, field string) told {
	switch {
	case types == 16 && len(field) <= 200 && utf8.ValidString(field):
		return good(str(field))
	case types == 16:
		return bad(api.ErrLong)
	case types == 8 && name.MatchString(field):
		return good(sym(field))
	case types == 8:
		return bad(api.ErrType)
	}
	v, _, e := vtext.Parse(field)
	switch {
	case e != api.OK:
		return bad(e)
	case types&(1<<v.Kind) == 0:
		return bad(api.ErrType)
	}
	return good(v)
}

// fields are texts, right and wrong ones, of up to three parts.
func fields() []string {
	parts := []string{"null", "true", "'", "a", "Z9", `"`, `\`, "1", "-", "[", "]", " ", ",", "\r\n", "\u00e9", "\xff", strings.Repeat("x", 39), strings.Repeat("y", 160), "9223372036854775808", "[[[[["}
	l := []string{""}
	for _, a := range parts {
		l = append(l, a)
		for _, b := range parts {
			l = append(l, a+b)
			for _, c := range parts {
				l = append(l, a+b+c)
			}
		}
	}
	for _, v := range slices.Concat(rightValues(), wrongValues()) {
		l = append(l, value.Text(v), v.S)
	}
	return l
}

// TestP152All: P15.2, short texts as fields of all slots, against the chapter's words.
func TestP152All(t *testing.T) {
	l := fields()
	codes := map[api.Errno]int{}
	for _, types := range someTypes() {
		s := takes(types)
		for _, field := range l {
			got := ofField(s, field)
			if want := stands(types, field); got != want {
				t.Fatalf("%d: OfField(%q): %v, not %v", types, field, got, want)
			}
			codes[got.e]++
		}
	}
	for _, e := range []api.Errno{api.OK, api.ErrForm, api.ErrDeep, api.ErrLong, api.ErrNum, api.ErrType} {
		if codes[e] == 0 {
			t.Errorf("error %d never comes", e)
		}
	}
}

// TestP152Slot: P15.2, of a slot just its Types count, whether it is right or not.
func TestP152Slot(t *testing.T) {
	for _, types := range []int{st, sy, st | sy, in, any6, 0} {
		for _, field := range []string{"a", "", "'a", `"a"`, "7", "null", "[1]", "\xff"} {
			want := ofField(takes(types), field)
			for _, s := range []api.Slot{{}, {Name: "1"}, {Name: "\xff", Req: true}, {Name: "b", Def: str("\xff")}, {Def: num(3)}, {Name: "c", Req: true, Def: nest(9, null)}} {
				s.Types = types
				if got := ofField(s, field); got != want {
					t.Errorf("%+v: OfField(%q): %v, not %v", s, field, got, want)
				}
				v, _ := cell.OfField(s, field)
				if got := cell.ToField(s, v); got != cell.ToField(takes(types), v) {
					t.Errorf("%+v: ToField(%s): %q", s, shape(v), got)
				}
			}
		}
	}
}

// grown is a right value, so deep at most, of at most so many nodes, as a source of numbers has it.
func grown(r *rand.Rand, few []api.Value, deep, nodes int) (api.Value, int) {
	if deep == 0 || nodes < 2 || r.IntN(3) == 0 {
		return few[r.IntN(len(few))], 1
	}
	v, has := list(), 1
	for range r.IntN(api.MaxItems + 1) {
		if has == nodes {
			break
		}
		x, n := grown(r, few, deep-1, nodes-has)
		v.L, has = append(v.L, x), has+n
	}
	return v, has
}

// manyValues are right values, deep and wide ones among them.
func manyValues() []api.Value {
	r := rand.New(rand.NewPCG(1, 15))
	l := rightValues()
	few := slices.DeleteFunc(rightValues(), func(v api.Value) bool { return v.Kind == api.List })
	for range 4000 {
		v, _ := grown(r, few, api.MaxDeep, api.MaxNodes)
		l = append(l, v)
	}
	return l
}

// TestP153Json: P15.3, a right value is that of its thing, read from its text, too; a thing that has a value is its value's.
func TestP153Json(t *testing.T) {
	deepest, most := 0, 0
	for _, v := range manyValues() {
		x := cell.ToJson(v)
		s, e := json.Print(x)
		if got := ofJson(x); got != good(v) || e != api.OK {
			t.Fatalf("OfJson(%s): %v, not %s", form(x), got, shape(v))
		}
		if got := ofJson(parsed(t, s)); got != good(v) {
			t.Fatalf("OfJson(%s): %v, not %s", s, got, shape(v))
		}
		deepest, most = max(deepest, value.Deep(v)), max(most, value.Nodes(v))
	}
	if deepest != api.MaxDeep || most < api.MaxNodes-5 {
		t.Error(deepest, most)
	}
	for _, x := range slices.Concat(otherObjects(), []api.Json{{}, {Kind: api.Bool}, {Kind: api.Bool, N: 1}, whole(0), whole(-1), text(""), text("sym"), array(), named("sym", text("b")), array(named("sym", text("b")), text("b"), within(2, api.Json{}))}) {
		for n := range 7 {
			y := within(n, x)
			if v, e := cell.OfJson(y); e == api.OK && (!value.Right(v) || form(cell.ToJson(v)) != form(y)) {
				t.Errorf("%s is of %s, whose thing is %s", form(y), shape(v), form(cell.ToJson(v)))
			}
		}
	}
}

// TestP153Field: P15.3, a value that fits is that of its field, of each slot that it fits.
func TestP153Field(t *testing.T) {
	for i, v := range manyValues() {
		types := someTypes()
		if i > 200 {
			types = []int{1 << v.Kind, any6, 1<<v.Kind | nu, i % 64}
		}
		for _, n := range types {
			if n&(1<<v.Kind) == 0 {
				continue
			}
			s := takes(n)
			field := cell.ToField(s, v)
			if got := ofField(s, field); got != good(v) {
				t.Fatalf("%d: OfField(%q): %v, not %s", n, field, got, shape(v))
			}
		}
	}
}

// part says whether a text is a part of another one's memory.
func part(s, of string) bool {
	at, first := uintptr(unsafe.Pointer(unsafe.StringData(s))), uintptr(unsafe.Pointer(unsafe.StringData(of)))
	return s != "" && at >= first && at < first+uintptr(len(of))
}

// values hands on a value, and all in it.
func values(v api.Value, each func(v api.Value)) {
	each(v)
	for _, x := range v.L {
		values(x, each)
	}
}

// things hands on a thing, and all in it.
func things(x api.Json, each func(x api.Json)) {
	each(x)
	for _, y := range x.L {
		things(y, each)
	}
}

// TestKeptTexts: no text of an answer is a part of what was handed in.
func TestKeptTexts(t *testing.T) {
	const all = "name text 'other [\"inner\" 'q]"
	s := strings.Clone(all)
	v := list(sym(s[:4]), str(s[5:9]), list(sym(s[11:16]), str(s[:9])))
	things(cell.ToJson(v), func(x api.Json) {
		if part(x.S, s) {
			t.Errorf("ToJson keeps %q", x.S)
		}
	})
	kept := func(what string) func(v api.Value) {
		return func(v api.Value) {
			if part(v.S, s) {
				t.Errorf("%s keeps %q", what, v.S)
			}
		}
	}
	of, e := cell.OfJson(array(named("sym", text(s[:4])), text(s[5:9]), array(named("sym", text(s[11:16])), text(s[:9]))))
	values(of, kept("OfJson"))
	if e != api.OK || shape(of) != shape(v) {
		t.Error(shape(of), e)
	}
	for types, field := range map[int]string{st: s[:9], sy: s[:4], any6: s[17:], sy | st: s[10:16]} {
		v, e := cell.OfField(takes(types), field)
		values(v, kept("OfField"))
		if e != api.OK {
			t.Errorf("%d: OfField(%q): %d", types, field, e)
		}
	}
	for types, v := range map[int]api.Value{st: str(s[:9]), sy: sym(s[:4]), any6: str(s[:9]), sy | st: sym(s[:4])} {
		if got := cell.ToField(takes(types), v); got == "" || part(got, s) {
			t.Errorf("%d: ToField keeps %q", types, got)
		}
	}
}

// roomy is a list with spare room, written full.
func roomy[T any](fill T, l ...T) []T {
	l = append(make([]T, 0, len(l)+3), l...)
	for i := range 3 {
		l[:cap(l)][len(l)+i] = fill
	}
	return l
}

// roomyValue is a value whose lists have spare room, two of them the same memory.
func roomyValue() api.Value {
	inner := roomy(num(9), num(1), sym("b"))
	return list(roomy(str("fill"), list(inner...), list(inner...), sym("a"), str("c"))...)
}

// roomyThing is the thing of roomyValue, likewise.
func roomyThing() api.Json {
	of := func(s string) api.Json {
		return object(roomy("fill", "sym"), roomy(text("fill"), text(s))...)
	}
	inner := roomy(whole(9), whole(1), of("b"))
	return array(roomy(text("fill"), array(inner...), array(inner...), of("a"), text("c"))...)
}

// opened is a value whose lists have their spare room as items, too.
func opened(v api.Value) api.Value {
	v.L = slices.Clone(v.L[:cap(v.L)])
	for i := range v.L {
		v.L[i] = opened(v.L[i])
	}
	return v
}

// openedThing is a thing whose lists have their spare room as things and names, too.
func openedThing(x api.Json) api.Json {
	x.Names, x.L = slices.Clone(x.Names[:cap(x.Names)]), slices.Clone(x.L[:cap(x.L)])
	for i := range x.L {
		x.L[i] = openedThing(x.L[i])
	}
	return x
}

// TestKeptLists: what is handed in stays as it is, its spare room too.
func TestKeptLists(t *testing.T) {
	v, x := roomyValue(), roomyThing()
	wantV, wantX := shape(opened(v)), form(openedThing(x))
	y := cell.ToJson(v)
	w, e := cell.OfJson(x)
	field := cell.ToField(takes(li), v)
	if form(y) != form(x) || shape(w) != shape(v) || e != api.OK || field != `[[1 'b] [1 'b] 'a "c"]` {
		t.Errorf("%s, %s %d, %q", form(y), shape(w), e, field)
	}
	if got := shape(opened(v)); got != wantV {
		t.Errorf("the value is %s, not %s", got, wantV)
	}
	if got := form(openedThing(x)); got != wantX {
		t.Errorf("the thing is %s, not %s", got, wantX)
	}
}

// span is where a list lies in memory, its spare room too.
type span struct{ first, end uintptr }

// spanOf is a list's.
func spanOf[T any](l []T) span {
	var one T
	first := uintptr(unsafe.Pointer(unsafe.SliceData(l)))
	return span{first, first + uintptr(cap(l))*unsafe.Sizeof(one)}
}

// spans are those of all lists in a value that have room.
func spans(v api.Value) []span {
	var l []span
	values(v, func(v api.Value) {
		if cap(v.L) > 0 {
			l = append(l, spanOf(v.L))
		}
	})
	return l
}

// thingSpans are those of all lists in a thing that have room.
func thingSpans(x api.Json) []span {
	var l []span
	things(x, func(x api.Json) {
		if cap(x.L) > 0 {
			l = append(l, spanOf(x.L))
		}
		if cap(x.Names) > 0 {
			l = append(l, spanOf(x.Names))
		}
	})
	return l
}

// TestNewLists: an answer is new memory, and no two of its lists share any, nor do those of two answers.
func TestNewLists(t *testing.T) {
	v, x := roomyValue(), roomyThing()
	y, z := cell.ToJson(v), cell.ToJson(v)
	w, _ := cell.OfJson(x)
	u, _ := cell.OfJson(x)
	field := cell.ToField(takes(li), v)
	p, _ := cell.OfField(takes(li), field)
	q, _ := cell.OfField(takes(li), field)
	byPlace := func(a, b span) int { return cmp.Compare(a.first, b.first) }
	// Of what is handed in two lists are the same memory, and count as one.
	given := slices.Compact(slices.SortedFunc(slices.Values(append(spans(v), thingSpans(x)...)), byPlace))
	all := slices.Concat(given, thingSpans(y), thingSpans(z), spans(w), spans(u), spans(p), spans(q))
	slices.SortFunc(all, byPlace)
	for i, b := range all[1:] {
		if a := all[i]; b.first < a.end {
			t.Errorf("%v and %v share memory", a, b)
		}
	}
	if len(all) < 30 {
		t.Error(len(all))
	}
}
