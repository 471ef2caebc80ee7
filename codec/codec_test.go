package codec_test

import (
	"bytes"
	"cmp"
	library "encoding/csv"
	standard "encoding/json"
	"fmt"
	"math"
	"math/rand/v2"
	"slices"
	"strings"
	"testing"
	"unsafe"

	"douane/api"
	"douane/bin"
	"douane/cell"
	"douane/codec"
	"douane/csv"
	"douane/json"
	"douane/schema"
	"douane/value"
)

// The bits of kinds.
const (
	nu   = 1 << api.Null
	bo   = 1 << api.Bool
	in   = 1 << api.Int
	sy   = 1 << api.Sym
	st   = 1 << api.Str
	li   = 1 << api.List
	any6 = 63
)

// Values, written short.
var (
	null = api.Value{}
	no   = api.Value{Kind: api.Bool}
	yes  = api.Value{Kind: api.Bool, N: 1}
)

func num(n int64) api.Value         { return api.Value{Kind: api.Int, N: n} }
func sym(s string) api.Value        { return api.Value{Kind: api.Sym, S: s} }
func str(s string) api.Value        { return api.Value{Kind: api.Str, S: s} }
func list(l ...api.Value) api.Value { return api.Value{Kind: api.List, L: l} }

// times is one thing so many times.
func times[T any](n int, x T) []T { return slices.Repeat([]T{x}, n) }

// row is one, and rows are a list, written short.
func row(l ...api.Value) []api.Value      { return l }
func rows(l ...[]api.Value) [][]api.Value { return l }

// nest is a value in so many lists.
func nest(n int, v api.Value) api.Value {
	for range n {
		v = list(v)
	}
	return v
}

// turned is a list with another thing in a place.
func turned[T any](l []T, i int, x T) []T {
	l = slices.Clone(l)
	l[i] = x
	return l
}

// rightValues are right values of all kinds, some at the limits.
func rightValues() []api.Value {
	return []api.Value{
		null, no, yes, num(0), num(-1), num(math.MinInt64), num(math.MaxInt64), sym("a"), sym("null"), sym("a-1_B"), sym(strings.Repeat("z", 40)),
		str(""), str("a"), str("null"), str("1"), str("'a"), str(`"a"`), str("[]"), str("a,b"), str("\"\\\n\x00,\r"), str("\r\n"), str("\u00e9\u20ac\U0010FFFF"), str(strings.Repeat("x", 200)), str(strings.Repeat(`"`, 200)),
		list(), list(num(1), sym("s"), str("a,\"b\""), null, no), list(list(), list(sym("a"))), nest(3, list()), nest(4, sym("a")), list(times(20, sym("b"))...), list(times(4, list(times(20, sym("c"))...))...),
	}
}

// wrongValues are values that aren't right, of all kinds, and of none.
func wrongValues() []api.Value {
	full := list(times(20, num(1))...)
	l := []api.Value{
		{N: 1}, {S: "a"}, {L: times(1, null)}, {Kind: api.Bool, N: 2}, {Kind: api.Bool, S: "a"}, {Kind: api.Int, S: "1"}, {Kind: api.Int, L: times(1, null)}, sym(""), sym("1"), sym("a b"), sym(strings.Repeat("z", 41)), {Kind: api.Sym, S: "a", N: 1},
		str("\xff"), str("\xed\xa0\x80"), str(strings.Repeat("x", 201)), {Kind: api.Str, S: "a", N: 1}, {Kind: api.List, N: 1}, list(times(21, null)...), nest(5, null), nest(9, list()), list(full, full, full, full, full), {Kind: 6}, {Kind: -1}, {Kind: 64}, {Kind: math.MaxInt}, {Kind: math.MinInt},
	}
	for _, v := range l {
		l = append(l, list(num(1), v))
	}
	return l
}

// tmpl is a template of nine versions, as layouts tell them.
func tmpl() api.Template {
	return api.Template{Name: "t", Slots: []api.Slot{
		{Name: "a", Types: in, Def: num(7)},
		{Name: "b", Types: st, Req: true, Def: str("x")},
		{Name: "c", Types: sy, Def: sym("n")},
		{Name: "d", Types: any6, Def: list(num(1), sym("s"))},
	}, Steps: []api.Step{
		{Kind: api.Widen, Col: 1, Slot: api.Slot{Types: nu}},
		{Kind: api.Rename, Col: 0, Slot: api.Slot{Name: "z"}},
		{Kind: api.Lose, Col: 2},
		{Kind: api.Add, Slot: api.Slot{Name: "a", Types: bo | li, Def: yes}},
		{Kind: api.Reorder, Order: []int{3, 1, 0, 2}},
		{Kind: api.Lose, Col: 1},
		{Kind: api.Add, Slot: api.Slot{Name: "c", Types: sy, Def: sym("m")}},
		{Kind: api.Widen, Col: 3, Slot: api.Slot{Types: st | sy}},
	}}
}

// column is one of a layout: its name, what it takes, what it is if it isn't told, and whether it must be.
type column struct {
	name  string
	types int
	def   api.Value
	must  bool
}

// layouts are tmpl's versions' columns, written out, by the versions' numbers.
func layouts() [][]column {
	a, b, c, d := column{"a", in, num(7), false}, column{"b", st, str("x"), true}, column{"c", sy, sym("n"), false}, column{"d", any6, list(num(1), sym("s")), false}
	z, wide, new := column{"z", in, num(7), false}, column{"b", st | nu, str("x"), true}, column{"a", bo | li, yes, false}
	return [][]column{
		{}, {a, b, c, d}, {a, wide, c, d}, {z, wide, c, d}, {z, wide, d}, {z, wide, d, new}, {new, wide, z, d}, {new, z, d},
		{new, z, d, {"c", sy, sym("m"), false}}, {new, z, d, {"c", sy | st, sym("m"), false}},
	}
}

// small is a template of a column that must be told, of any kind, and one that needn't; smallLayout are its columns.
func small() api.Template {
	return api.Template{Name: "s", Slots: []api.Slot{{Name: "b", Types: any6, Req: true}, {Name: "a", Types: st, Def: str("d")}}}
}

func smallLayout() []column {
	return []column{{"b", any6, null, true}, {"a", st, str("d"), false}}
}

// one is a template of one column.
func one(types int, def api.Value) api.Template {
	return api.Template{Name: "o", Slots: []api.Slot{{Name: "a", Types: types, Def: def}}}
}

// allForms are the forms, noForms numbers that are none's, noVersions numbers that are no version's of tmpl.
func allForms() []int   { return []int{api.AsJson, api.AsCsv, api.AsBin} }
func noForms() []int    { return []int{0, -1, 4, 5, 256 + 1, math.MaxInt, math.MinInt} }
func noVersions() []int { return []int{0, -1, 10, 11, 256 + 1, math.MaxInt, math.MinInt} }

// wrongTemplates are tmpl with one thing that isn't right, wherever it stands.
func wrongTemplates() []api.Template {
	var l []api.Template
	for _, spoil := range []func(t *api.Template){
		func(t *api.Template) { *t = api.Template{} },
		func(t *api.Template) { t.Name = "1" },
		func(t *api.Template) { t.Slots[1].Name = "a" },
		func(t *api.Template) { t.Slots[0].Types = 64 | in },
		func(t *api.Template) { t.Slots[2].Def = num(1) },
		func(t *api.Template) { t.Steps[6].Slot.Req = true },
		func(t *api.Template) { t.Steps[7].Kind = 0 },
		func(t *api.Template) { t.Steps[7].Col = 4 },
		func(t *api.Template) { t.Steps = append(t.Steps, api.Step{Kind: api.Lose}) },
	} {
		t := tmpl()
		spoil(&t)
		l = append(l, t)
	}
	return l
}

// fits says whether a value that is right, or not, fits what takes some kinds. (What is deeper than 10 is never asked.)
func fits(types int, v api.Value) bool { return value.Right(v) && types>>v.Kind%2 == 1 }

// fitRow is a right value for each column, others with another turn.
func fitRow(cols []column, turn int) []api.Value {
	var l []api.Value
	for i, c := range cols {
		right := slices.DeleteFunc(rightValues(), func(v api.Value) bool { return !fits(c.types, v) })
		l = append(l, right[(turn+i)%len(right)])
	}
	return l
}

// shape is all that there is in a value, nil and empty the same.
func shape(v api.Value) string {
	var b strings.Builder
	fmt.Fprintf(&b, "%d,%d,%q(", v.Kind, v.N, v.S)
	for _, x := range v.L {
		b.WriteString(shape(x))
	}
	return b.String() + ")"
}

// shapes is all that there is in a list.
func shapes(l [][]api.Value) string {
	var b strings.Builder
	for _, r := range l {
		b.WriteString("{")
		for _, v := range r {
			b.WriteString(shape(v))
		}
		b.WriteString("}")
	}
	return b.String()
}

// put asks for a list's bytes, and what these must be: beside an error, none.
func put(t *testing.T, x api.Template, v, form int, l [][]api.Value, want string, e api.Errno) {
	t.Helper()
	if got, f := codec.Encode(x, v, form, l); f != e || string(got) != want {
		t.Fatalf("Encode, version %d, form %d, %.300s: %.300q, %d, not %.300q, %d", v, form, shapes(l), got, f, want, e)
	}
}

// get asks for the list of bytes, and what it must be: beside an error, none.
func get(t *testing.T, x api.Template, v, form int, s string, want [][]api.Value, e api.Errno) {
	t.Helper()
	if got, f := codec.Decode(x, v, form, []byte(s)); f != e || shapes(got) != shapes(want) {
		t.Fatalf("Decode, version %d, form %d, %.300q: %.300s, %d, not %.300s, %d", v, form, s, shapes(got), f, shapes(want), e)
	}
}

// slotOf is a column's slot.
func slotOf(c column) api.Slot { return api.Slot{Name: c.name, Types: c.types, Def: c.def} }

// written is a list's bytes, by the chapter's words.
func written(t *testing.T, cols []column, form int, l [][]api.Value) string {
	t.Helper()
	x, texts, parts := api.Json{Kind: api.List}, [][]string{nil}, bin.Num(len(l))
	for _, c := range cols {
		texts[0] = append(texts[0], c.name)
	}
	for _, r := range l {
		y, fields := api.Json{Kind: api.Obj, Names: texts[0]}, []string(nil)
		for i, v := range r {
			y.L = append(y.L, cell.ToJson(v))
			fields = append(fields, cell.ToField(slotOf(cols[i]), v))
			parts = append(parts, bin.Value(v)...)
		}
		x.L, texts = append(x.L, y), append(texts, fields)
	}
	s, e := json.Print(x)
	c, f := csv.Print(texts)
	if e != api.OK || f != api.OK {
		t.Fatal(e, f)
	}
	return []string{"", s, c, string(parts)}[form]
}

// TestP161Written: P16.1 and P16.2, lists and their bytes, written out, both ways.
func TestP161Written(t *testing.T) {
	for _, c := range []struct {
		v               int
		l               [][]api.Value
		json, csv, bins string
	}{
		{1, nil, `[]`, "a,b,c,d\r\n", "\x00\x00\x00\x00"},
		{6, nil, `[]`, "a,b,z,d\r\n", "\x00\x00\x00\x00"},
		{1, rows(row(num(1), str("null"), sym("s"), null)), `[{"a":1,"b":"null","c":{"sym":"s"},"d":null}]`, "a,b,c,d\r\n1,null,s,null\r\n", "\x00\x00\x00\x01\x02\x00\x00\x00\x00\x00\x00\x00\x01\x04\x00\x00\x00\x04null\x03\x00\x00\x00\x01s\x00"},
		{1, rows(row(num(-2), str(""), sym("null"), sym("s")), row(num(0), str(`x,"`), sym("Z-_9"), str(""))), `[{"a":-2,"b":"","c":{"sym":"null"},"d":{"sym":"s"}},{"a":0,"b":"x,\"","c":{"sym":"Z-_9"},"d":""}]`, "a,b,c,d\r\n-2,\"\",null,'s\r\n0,\"x,\"\"\",Z-_9,\"\"\"\"\"\"\r\n", "\x00\x00\x00\x02\x02\xff\xff\xff\xff\xff\xff\xff\xfe\x04\x00\x00\x00\x00\x03\x00\x00\x00\x04null\x03\x00\x00\x00\x01s\x02\x00\x00\x00\x00\x00\x00\x00\x00\x04\x00\x00\x00\x03x,\"\x03\x00\x00\x00\x04Z-_9\x04\x00\x00\x00\x00"},
		// The column b takes Null, too, from version 2 on, so its fields are values' texts.
		{2, rows(row(num(1), str("null"), sym("s"), yes), row(num(1), null, sym("s"), list(num(1), num(2)))), `[{"a":1,"b":"null","c":{"sym":"s"},"d":true},{"a":1,"b":null,"c":{"sym":"s"},"d":[1,2]}]`, "a,b,c,d\r\n1,\"\"\"null\"\"\",s,true\r\n1,null,s,[1 2]\r\n", "\x00\x00\x00\x02\x02\x00\x00\x00\x00\x00\x00\x00\x01\x04\x00\x00\x00\x04null\x03\x00\x00\x00\x01s\x01\x01\x02\x00\x00\x00\x00\x00\x00\x00\x01\x00\x03\x00\x00\x00\x01s\x05\x00\x00\x00\x02\x02\x00\x00\x00\x00\x00\x00\x00\x01\x02\x00\x00\x00\x00\x00\x00\x00\x02"},
		{3, rows(row(num(1), str("k"), sym("s"), no)), `[{"z":1,"b":"k","c":{"sym":"s"},"d":false}]`, "z,b,c,d\r\n1,\"\"\"k\"\"\",s,false\r\n", "\x00\x00\x00\x01\x02\x00\x00\x00\x00\x00\x00\x00\x01\x04\x00\x00\x00\x01k\x03\x00\x00\x00\x01s\x01\x00"},
		{6, rows(row(no, null, num(3), num(4))), `[{"a":false,"b":null,"z":3,"d":4}]`, "a,b,z,d\r\nfalse,null,3,4\r\n", "\x00\x00\x00\x01\x01\x00\x00\x02\x00\x00\x00\x00\x00\x00\x00\x03\x02\x00\x00\x00\x00\x00\x00\x00\x04"},
		{7, rows(row(list(), num(3), num(4))), `[{"a":[],"z":3,"d":4}]`, "a,z,d\r\n[],3,4\r\n", "\x00\x00\x00\x01\x05\x00\x00\x00\x00\x02\x00\x00\x00\x00\x00\x00\x00\x03\x02\x00\x00\x00\x00\x00\x00\x00\x04"},
		{8, rows(row(no, num(3), null, sym("q"))), `[{"a":false,"z":3,"d":null,"c":{"sym":"q"}}]`, "a,z,d,c\r\nfalse,3,null,q\r\n", "\x00\x00\x00\x01\x01\x00\x02\x00\x00\x00\x00\x00\x00\x00\x03\x00\x03\x00\x00\x00\x01q"},
		{9, rows(row(no, num(3), null, sym("q")), row(no, num(3), null, str("q"))), `[{"a":false,"z":3,"d":null,"c":{"sym":"q"}},{"a":false,"z":3,"d":null,"c":"q"}]`, "a,z,d,c\r\nfalse,3,null,'q\r\nfalse,3,null,\"\"\"q\"\"\"\r\n", "\x00\x00\x00\x02\x01\x00\x02\x00\x00\x00\x00\x00\x00\x00\x03\x00\x03\x00\x00\x00\x01q\x01\x00\x02\x00\x00\x00\x00\x00\x00\x00\x03\x00\x04\x00\x00\x00\x01q"},
	} {
		for form, s := range map[int]string{api.AsJson: c.json, api.AsCsv: c.csv, api.AsBin: c.bins} {
			put(t, tmpl(), c.v, form, c.l, s, api.OK)
			get(t, tmpl(), c.v, form, s, c.l, api.OK)
		}
	}
	put(t, one(in, num(0)), 1, api.AsJson, rows(row(num(5))), `[{"a":5}]`, api.OK)
	put(t, one(in, num(0)), 1, api.AsCsv, rows(row(num(5))), "a\r\n5\r\n", api.OK)
	put(t, one(in, num(0)), 1, api.AsBin, rows(row(num(5))), "\x00\x00\x00\x01\x02\x00\x00\x00\x00\x00\x00\x00\x05", api.OK)
	put(t, one(st, str("")), 1, api.AsCsv, rows(row(str("")), row(str("\r\n"))), "a\r\n\"\"\r\n\"\r\n\"\r\n", api.OK)
}

// TestP161All: P16.1, each column of each version with all right values that fit it, in each form, in each row, against the chapter's words.
func TestP161All(t *testing.T) {
	for v, cols := range layouts() {
		for i, c := range cols {
			for turn, x := range rightValues() {
				l := rows(fitRow(cols, turn), fitRow(cols, turn+1), fitRow(cols, turn+2))
				l[turn%3][i] = x
				for _, form := range allForms() {
					if fits(c.types, x) {
						put(t, tmpl(), v, form, l, written(t, cols, form, l), api.OK)
					} else {
						put(t, tmpl(), v, form, l, "", api.ErrType)
					}
				}
			}
		}
	}
}

// TestP161Type: P16.1, rows that aren't as long as there are columns, and values that don't fit, wherever they stand.
func TestP161Type(t *testing.T) {
	for v, cols := range layouts()[1:] {
		v++
		right := times(3, fitRow(cols, 0))
		for _, form := range allForms() {
			for at := range right {
				for n := range 10 {
					if n != len(cols) {
						put(t, tmpl(), v, form, turned(right, at, times(n, num(1))), "", api.ErrType)
						put(t, tmpl(), v, form, turned(right, at, append(fitRow(cols, 0), times(n, null)...)[:n]), "", api.ErrType)
					}
				}
				put(t, tmpl(), v, form, turned(right, at, nil), "", api.ErrType)
				for i := range cols {
					for _, x := range wrongValues() {
						put(t, tmpl(), v, form, turned(right, at, turned(right[at], i, x)), "", api.ErrType)
					}
				}
			}
		}
	}
}

// TestP161Long: P16.1, at most 100 rows; that there are more is told ahead of what is in them.
func TestP161Long(t *testing.T) {
	for v, cols := range layouts()[1:] {
		v++
		for _, form := range allForms() {
			for _, n := range []int{1, 2, 99, 100} {
				l := times(n, fitRow(cols, n))
				put(t, tmpl(), v, form, l, written(t, cols, form, l), api.OK)
				put(t, tmpl(), v, form, turned(l, n-1, nil), "", api.ErrType)
			}
			for _, n := range []int{101, 102, 200, 1000} {
				for _, r := range rows(fitRow(cols, n), nil, row(num(1)), row(wrongValues()...)) {
					put(t, tmpl(), v, form, times(n, r), "", api.ErrLong)
				}
			}
		}
	}
}

// TestP16First: P16.1 and P16.2, what is asked ahead of all: the template, the version, the form, in this order, whatever the list, or the bytes, are.
func TestP16First(t *testing.T) {
	bodies := []string{"", "[]", "[", "b\r\nx\r\n", "\x00\x00\x00\x00", "\x00\x00\x00\xff", "\xff"}
	ask := func(x api.Template, v, form int, e api.Errno) {
		t.Helper()
		for _, l := range [][][]api.Value{nil, {nil}, {{num(1), str("a"), sym("a"), null}}, {{{Kind: -1}}}, times(101, row(num(1)))} {
			put(t, x, v, form, l, "", e)
		}
		for _, s := range bodies {
			get(t, x, v, form, s, nil, e)
		}
	}
	for _, x := range wrongTemplates() {
		for _, form := range append(allForms(), noForms()...) {
			for v := range 11 {
				ask(x, v, form, api.ErrArg)
			}
			for _, v := range noVersions() {
				ask(x, v, form, api.ErrArg)
			}
		}
	}
	for _, v := range noVersions() {
		for _, form := range append(allForms(), noForms()...) {
			ask(tmpl(), v, form, api.ErrNone)
		}
	}
	for v := 1; v < 10; v++ {
		for _, form := range noForms() {
			ask(tmpl(), v, form, api.ErrArg)
		}
	}
}

// filled is a row of names and values, by the chapters' words.
func filled(cols []column, names []string, vals []api.Value) ([]api.Value, api.Errno) {
	var l []api.Value
	for _, c := range cols {
		l = append(l, c.def)
	}
	for i, name := range names {
		n := slices.IndexFunc(cols, func(c column) bool { return c.name == name })
		switch {
		case slices.Contains(names[:i], name):
			return nil, api.ErrTwice
		case n < 0:
			return nil, api.ErrNone
		case !fits(cols[n].types, vals[i]):
			return nil, api.ErrType
		}
		l[n] = vals[i]
	}
	for _, c := range cols {
		if c.must && !slices.Contains(names, c.name) {
			return nil, api.ErrLack
		}
	}
	return l, api.OK
}

// saidJson is the list that JSON says, by the chapter's words.
func saidJson(cols []column, s string) (l [][]api.Value, e api.Errno) {
	x, _, e := json.Parse(s, 8)
	if e != api.OK {
		return nil, e
	}
	for _, y := range x.L {
		if y.Kind != api.Obj {
			return nil, api.ErrType
		}
	}
	switch {
	case x.Kind != api.List:
		return nil, api.ErrType
	case len(x.L) > 100:
		return nil, api.ErrLong
	}
	for _, y := range x.L {
		var vals []api.Value
		for _, z := range y.L {
			v, e := cell.OfJson(z)
			if e != api.OK {
				return nil, e
			}
			vals = append(vals, v)
		}
		r, e := filled(cols, y.Names, vals)
		if e != api.OK {
			return nil, e
		}
		l = append(l, r)
	}
	return l, api.OK
}

// saidCsv is the list that CSV says, by the chapter's words.
func saidCsv(cols []column, s string) (l [][]api.Value, e api.Errno) {
	texts, _, e := csv.Parse(s)
	switch {
	case e != api.OK || len(texts) == 0:
		return nil, api.ErrForm
	case len(texts) > 101:
		return nil, api.ErrLong
	}
	times, at := map[string]int{}, map[string]int{}
	for _, name := range texts[0] {
		times[name]++
		at[name] = slices.IndexFunc(cols, func(c column) bool { return c.name == name })
	}
	for _, n := range times {
		if n > 1 {
			return nil, api.ErrTwice
		}
	}
	for _, n := range at {
		if n < 0 {
			return nil, api.ErrNone
		}
	}
	for _, fields := range texts[1:] {
		if len(fields) != len(texts[0]) {
			return nil, api.ErrForm
		}
		var vals []api.Value
		for i, field := range fields {
			v, e := cell.OfField(slotOf(cols[at[texts[0][i]]]), field)
			if e != api.OK {
				return nil, e
			}
			vals = append(vals, v)
		}
		r, e := filled(cols, texts[0], vals)
		if e != api.OK {
			return nil, e
		}
		l = append(l, r)
	}
	return l, api.OK
}

// saidBin is the list that bytes of layer 6 say, by the chapter's words.
func saidBin(cols []column, s string) (l [][]api.Value, e api.Errno) {
	if len(s) < 4 || s[0] > 0x7f {
		return nil, api.ErrForm
	}
	if s[:3] != "\x00\x00\x00" || s[3] > 100 {
		return nil, api.ErrLong
	}
	// A value's bytes are those of just one, so the next value is the shortest beginning that is one's.
	left := s[4:]
	for range s[3] {
		var r []api.Value
		for range cols {
			n := 1
			for ; n <= len(left); n++ {
				b := bin.Read([]byte(left[:n]))
				if v := b.Value(); b.Done() {
					r = append(r, v)
					break
				}
			}
			if n > len(left) {
				return nil, api.ErrForm
			}
			left = left[n:]
		}
		l = append(l, r)
	}
	if left != "" {
		return nil, api.ErrForm
	}
	for _, r := range l {
		for i, v := range r {
			if !fits(cols[i].types, v) {
				return nil, api.ErrType
			}
		}
	}
	return l, api.OK
}

// said is the list that bytes of a form say, by the chapter's words.
func said(cols []column, form int, s string) ([][]api.Value, api.Errno) {
	switch form {
	case api.AsJson:
		return saidJson(cols, s)
	case api.AsCsv:
		return saidCsv(cols, s)
	}
	return saidBin(cols, s)
}

// counts is how often each error came.
type counts map[api.Errno]int

// same asks for the list of bytes, against the chapter's words.
func (n counts) same(t *testing.T, x api.Template, cols []column, v, form int, s string) {
	t.Helper()
	want, e := said(cols, form, s)
	get(t, x, v, form, s, want, e)
	n[e]++
}

// all asks whether each of some errors came often.
func (n counts) all(t *testing.T, often int, errors ...api.Errno) {
	t.Helper()
	for _, e := range errors {
		if n[e] < often {
			t.Errorf("error %d comes %d times", e, n[e])
		}
	}
	if len(n) != len(errors) {
		t.Error(n)
	}
}

// TestP162JsonWritten: P16.2, JSON, each error and which of several is the first, written out.
func TestP162JsonWritten(t *testing.T) {
	long := `"` + strings.Repeat("x", 201) + `"`
	for _, c := range []struct {
		v int
		s string
		l [][]api.Value
		e api.Errno
	}{
		{1, `[]`, nil, api.OK}, {1, " [ ] \n", nil, api.OK}, {1, `[{"b":"k"}]`, rows(row(num(7), str("k"), sym("n"), list(num(1), sym("s")))), api.OK},
		{1, ` [ { "d" : null , "\u0062":"\u006b" , "a" : -0 } ]`, rows(row(num(0), str("k"), sym("n"), null)), api.OK},
		{1, `[{"c":{"sym":"q"},"b":"1"},{"b":"2","a":3}]`, rows(row(num(7), str("1"), sym("q"), list(num(1), sym("s"))), row(num(3), str("2"), sym("n"), list(num(1), sym("s")))), api.OK},
		{6, `[{"b":null}]`, rows(row(yes, null, num(7), list(num(1), sym("s")))), api.OK}, {7, `[{}]`, rows(row(yes, num(7), list(num(1), sym("s")))), api.OK}, {7, `[{"z":1},{},{"a":[]}]`, rows(row(yes, num(1), list(num(1), sym("s"))), row(yes, num(7), list(num(1), sym("s"))), row(list(), num(7), list(num(1), sym("s")))), api.OK},
		{1, `[{"b":"x","d":[[[[{"sym":"s"}]]]]}]`, rows(row(num(7), str("x"), sym("n"), nest(4, sym("s")))), api.OK},
		// Layer 8's errors are ahead of all others.
		{1, ``, nil, api.ErrForm}, {1, `[`, nil, api.ErrForm}, {1, `[]]`, nil, api.ErrForm}, {1, `[{"b":"x"},]`, nil, api.ErrForm}, {1, `[{b:1}]`, nil, api.ErrForm}, {1, "\xef\xbb\xbf[]", nil, api.ErrForm}, {1, "[{\"b\":\"\xff\"}]", nil, api.ErrForm}, {1, `[1,{"b":1.5}]`, nil, api.ErrNum}, {1, `[9223372036854775808]`, nil, api.ErrNum}, {1, `[1,{"q":1,"q":2}]`, nil, api.ErrTwice}, {1, `[{"b":"x"},{"a":1,"b":1,"\u0061":1}]`, nil, api.ErrTwice}, {1, `{"a":{},"a":{}}`, nil, api.ErrTwice}, {1, `[{"q":1},{]`, nil, api.ErrForm}, {1, `[` + strings.Repeat("1,", 200) + `]`, nil, api.ErrForm},
		// At most 8 deep.
		{1, `[[[[[[[[]]]]]]]]`, nil, api.ErrType}, {1, `[[[[[[[[[]]]]]]]]]`, nil, api.ErrDeep}, {1, `[{"b":[[[[[[]]]]]]},1]`, nil, api.ErrType}, {1, `[{"b":[[[[[[[]]]]]]]},1]`, nil, api.ErrDeep}, {1, `[{"b":[[[[[{"sym":"a"}]]]]]},1]`, nil, api.ErrType}, {1, `[{"b":[[[[[[{"sym":"a"}]]]]]]},1]`, nil, api.ErrDeep}, {1, `[{"q":[[[[[[{"sym":{}`, nil, api.ErrDeep}, {1, `{"a":{"a":{"a":{"a":{"a":{"a":{"a":{}}}}}}}}`, nil, api.ErrType}, {1, `{"a":{"a":{"a":{"a":{"a":{"a":{"a":{"a":{}}}}}}}}}`, nil, api.ErrDeep}, {1, strings.Repeat("[", 1<<16), nil, api.ErrDeep},
		// A List of Objs alone.
		{1, `null`, nil, api.ErrType}, {1, `true`, nil, api.ErrType}, {1, `1`, nil, api.ErrType}, {1, `"a"`, nil, api.ErrType}, {1, `{}`, nil, api.ErrType}, {1, `{"b":"x"}`, nil, api.ErrType}, {1, `{"a":{"b":"x"}}`, nil, api.ErrType}, {1, `[null]`, nil, api.ErrType}, {1, `[[]]`, nil, api.ErrType}, {1, `["a"]`, nil, api.ErrType}, {1, `[{"b":"x"},1]`, nil, api.ErrType}, {1, `[1,{"b":"x"}]`, nil, api.ErrType}, {1, `[{"b":"x"},[],{"b":"x"}]`, nil, api.ErrType}, {1, `[[{"b":"x"}]]`, nil, api.ErrType}, {1, `[{"q":1},1]`, nil, api.ErrType}, {1, `[{},{"b":[[[[[]]]]]},7]`, nil, api.ErrType},
		// More than 100 rows, behind that, and ahead of what is in the rows.
		{1, `[` + strings.Repeat(`{"b":"x"},`, 99) + `{"b":"x"}]`, times(100, row(num(7), str("x"), sym("n"), list(num(1), sym("s")))), api.OK}, {1, `[` + strings.Repeat(`{"b":"x"},`, 100) + `{"b":"x"}]`, nil, api.ErrLong}, {1, `[` + strings.Repeat(`{},`, 100) + `{"q":{}}]`, nil, api.ErrLong}, {1, `[` + strings.Repeat(`{},`, 100) + `1]`, nil, api.ErrType}, {1, `[1` + strings.Repeat(`,{}`, 100) + `]`, nil, api.ErrType}, {1, `[{"q":1}` + strings.Repeat(`,{"b":"x"}`, 98) + `]`, nil, api.ErrNone}, {1, `[` + strings.Repeat(`1,`, 100) + `1]`, nil, api.ErrType},
		// Members that have no value, the first of them, ahead of what Fill tells of the row.
		{1, `[{"b":{}}]`, nil, api.ErrType}, {1, `[{"b":{"sym":1}}]`, nil, api.ErrType}, {1, `[{"b":{"sym":"1"}}]`, nil, api.ErrType}, {1, `[{"b":{"str":"a"}}]`, nil, api.ErrType}, {1, `[{"b":[{"sym":"a","b":1}]}]`, nil, api.ErrType}, {1, `[{"b":[[[[[]]]]]}]`, nil, api.ErrDeep}, {1, `[{"b":` + long + `}]`, nil, api.ErrLong}, {1, `[{"d":[` + strings.Repeat("1,", 20) + `1]}]`, nil, api.ErrLong}, {1, `[{"b":` + long + `,"d":[[[[[]]]]]}]`, nil, api.ErrLong}, {1, `[{"d":[[[[[]]]]],"b":` + long + `}]`, nil, api.ErrDeep}, {1, `[{"d":{},"b":` + long + `}]`, nil, api.ErrType}, {1, `[{"d":[[[[[]]]]],"b":{}}]`, nil, api.ErrDeep},
		{1, `[{"q":1,"b":` + long + `}]`, nil, api.ErrLong}, {1, `[{"b":1,"a":[[[[[]]]]]}]`, nil, api.ErrDeep}, {1, `[{"a":` + long + `}]`, nil, api.ErrLong}, {1, `[{"q":[[[[[]]]]]}]`, nil, api.ErrDeep}, {1, `[{"q":{}}]`, nil, api.ErrType}, {1, `[{"q":1,"a":{}}]`, nil, api.ErrType},
		// What Fill tells.
		{1, `[{}]`, nil, api.ErrLack}, {1, `[{"a":1,"c":{"sym":"s"},"d":1}]`, nil, api.ErrLack}, {1, `[{"a":1,"q":1}]`, nil, api.ErrNone}, {1, `[{"B":"x"}]`, nil, api.ErrNone}, {1, `[{"":1}]`, nil, api.ErrNone}, {1, `[{"b":1}]`, nil, api.ErrType}, {1, `[{"b":null}]`, nil, api.ErrType}, {2, `[{"b":1}]`, nil, api.ErrType}, {1, `[{"b":{"sym":"s"}}]`, nil, api.ErrType}, {1, `[{"b":"x","c":"s"}]`, nil, api.ErrType}, {1, `[{"b":"x","a":true}]`, nil, api.ErrType}, {1, `[{"q":1,"b":1}]`, nil, api.ErrNone}, {1, `[{"b":1,"q":1}]`, nil, api.ErrType}, {1, `[{"a":"1","q":1}]`, nil, api.ErrType},
		{3, `[{"a":1,"b":"x"}]`, nil, api.ErrNone}, {4, `[{"c":{"sym":"s"},"b":"x"}]`, nil, api.ErrNone}, {5, `[{"a":1,"b":"x"}]`, nil, api.ErrType}, {7, `[{"b":"x"}]`, nil, api.ErrNone}, {9, `[{"c":"x"}]`, rows(row(yes, num(7), list(num(1), sym("s")), str("x"))), api.OK}, {8, `[{"c":"x"}]`, nil, api.ErrType},
		// Row by row.
		{1, `[{"b":"x"},{"b":1},{"q":1}]`, nil, api.ErrType}, {1, `[{"b":"x"},{"q":1},{"b":1}]`, nil, api.ErrNone}, {1, `[{},{"b":{}}]`, nil, api.ErrLack}, {1, `[{"q":1},{"b":[[[[[]]]]]}]`, nil, api.ErrNone}, {1, `[{"b":[[[[[]]]]]},{}]`, nil, api.ErrDeep}, {1, `[{"b":"x"},{}]`, nil, api.ErrLack}, {1, `[{"b":"x"},{"b":"x"},{"b":` + long + `},{}]`, nil, api.ErrLong},
	} {
		get(t, tmpl(), c.v, api.AsJson, c.s, c.l, c.e)
		if l, e := said(layouts()[c.v], api.AsJson, c.s); e != c.e || shapes(l) != shapes(c.l) {
			t.Errorf("%.100q: %s %d, by the words", c.s, shapes(l), e)
		}
	}
}

// TestP162JsonRows: P16.2, all rows of up to three of some members, and all lists of up to three of some rows, of each version, against the chapter's words.
func TestP162JsonRows(t *testing.T) {
	n := counts{}
	vals := []string{`"x"`, `5`, `null`, `{"sym":"s"}`, `{}`, `[[[[[]]]]]`, `"` + strings.Repeat("x", 201) + `"`}
	for v, cols := range layouts()[1:] {
		v++
		var on func(members []string)
		on = func(members []string) {
			n.same(t, tmpl(), cols, v, api.AsJson, "[{"+strings.Join(members, ",")+"}]")
			for _, name := range []string{"a", "b", "q"} {
				for _, x := range vals {
					if len(members) < 3 {
						on(append(slices.Clip(members), `"`+name+`":`+x))
					}
				}
			}
		}
		on(nil)
		bodies := []string{`{"b":"x"}`, `{}`, `{"b":"y","d":[1]}`, `{"q":1}`, `{"b":1}`, `{"b":{}}`, `{"d":[[[[[]]]]]}`, `{"d":"` + strings.Repeat("x", 201) + `"}`, `{"z":4,"a":[]}`, `[]`, `{"b":1e3}`, `{`}
		for _, a := range bodies {
			for _, b := range bodies {
				for _, c := range bodies {
					n.same(t, tmpl(), cols, v, api.AsJson, "["+a+","+b+","+c+"]")
				}
				n.same(t, tmpl(), cols, v, api.AsJson, "["+a+","+b+"]")
			}
		}
	}
	n.all(t, 100, api.OK, api.ErrForm, api.ErrDeep, api.ErrLong, api.ErrNum, api.ErrTwice, api.ErrNone, api.ErrType, api.ErrLack)
}

// TestP162JsonMany: P16.2, things far greater than a value may be, whatever is in them.
func TestP162JsonMany(t *testing.T) {
	many := strings.Repeat(`1,`, 20000)
	var names strings.Builder
	for i := range 20000 {
		fmt.Fprintf(&names, `"n%d":%d,`, i, i)
	}
	for _, c := range []struct {
		s string
		e api.Errno
	}{
		{`[{"b":[` + many + `1]}]`, api.ErrLong}, {`[{"b":[` + many + `[[[[]]]]]}]`, api.ErrDeep}, {`[{"b":[` + many + `{}]}]`, api.ErrType}, {`[{"b":[[[[[]]]],` + many + `{}]}]`, api.ErrType}, {`[{"b":"` + strings.Repeat("x", 100000) + `"}]`, api.ErrLong},
		{`[{` + names.String() + `"b":"x"}]`, api.ErrNone}, {`[{"b":"x",` + names.String() + `"a":{}}]`, api.ErrType}, {`[{"b":"x",` + names.String() + `"n0":1}]`, api.ErrTwice}, {`[` + strings.Repeat(`{},`, 20000) + `{}]`, api.ErrLong}, {`[` + strings.Repeat(`{},`, 20000) + `[]]`, api.ErrType},
	} {
		get(t, tmpl(), 1, api.AsJson, c.s, nil, c.e)
	}
}

// TestP162CsvWritten: P16.2, CSV, each error and which of several is the first, written out.
func TestP162CsvWritten(t *testing.T) {
	long, d := strings.Repeat("x", 201), list(num(1), sym("s"))
	for _, c := range []struct {
		v int
		s string
		l [][]api.Value
		e api.Errno
	}{
		{1, "b\r\n", nil, api.OK}, {1, "b", nil, api.OK}, {1, "a", nil, api.OK}, {1, "d,c,b,a", nil, api.OK}, {1, "\"b\"\r\n", nil, api.OK}, {1, "b\r\nk", rows(row(num(7), str("k"), sym("n"), d)), api.OK}, {1, "b\r\nnull\r\n", rows(row(num(7), str("null"), sym("n"), d)), api.OK}, {1, "b\r\n\r\n", rows(row(num(7), str(""), sym("n"), d)), api.OK}, {1, "b\r\n\"\"", rows(row(num(7), str(""), sym("n"), d)), api.OK}, {1, "b,c\r\n,q\r\n1,z", rows(row(num(7), str(""), sym("q"), d), row(num(7), str("1"), sym("z"), d)), api.OK},
		{1, "d,\"b\",a\r\n[],\"a\"\",\r\n\",-3\r\n\"'s\",x,\"0\"", rows(row(num(-3), str("a\",\r\n"), sym("n"), list()), row(num(0), str("x"), sym("n"), sym("s"))), api.OK}, {2, "b\r\nnull", rows(row(num(7), null, sym("n"), d)), api.OK}, {2, "b\r\n\"\"\"null\"\"\"", rows(row(num(7), str("null"), sym("n"), d)), api.OK}, {6, "z,b\r\n5,null\r\n", rows(row(yes, null, num(5), d)), api.OK}, {7, "z\r\n5", rows(row(yes, num(5), d)), api.OK}, {8, "c\r\nq", rows(row(yes, num(7), d, sym("q"))), api.OK}, {9, "c\r\n'q\r\n\"\"\"q\"\"\"", rows(row(yes, num(7), d, sym("q")), row(yes, num(7), d, str("q"))), api.OK},
		// Layer 9's error is ahead of all others, and so is that there is no row.
		{1, "", nil, api.ErrForm}, {1, "b\"", nil, api.ErrForm}, {1, "q,q\r\n\"", nil, api.ErrForm}, {1, "b\n", nil, api.ErrForm}, {1, "b\r", nil, api.ErrForm}, {1, "q\r\n\"a\"b", nil, api.ErrForm}, {1, "b" + strings.Repeat("\r\n", 200) + "\"", nil, api.ErrForm},
		// More than 100 rows behind the names, ahead of what these are.
		{1, "b" + strings.Repeat("\r\nx", 100), times(100, row(num(7), str("x"), sym("n"), d)), api.OK}, {1, "b\r\n" + strings.Repeat("x\r\n", 100), times(100, row(num(7), str("x"), sym("n"), d)), api.OK}, {1, "b" + strings.Repeat("\r\nx", 101), nil, api.ErrLong}, {1, "b,b,q" + strings.Repeat("\r\n", 102), nil, api.ErrLong}, {1, "b,b,q" + strings.Repeat("\r\nx", 100), nil, api.ErrTwice}, {1, "q" + strings.Repeat("\r\nx", 101), nil, api.ErrLong}, {1, "q" + strings.Repeat("\r\nx", 100), nil, api.ErrNone}, {1, "b" + strings.Repeat("\r\nx", 99) + "\r\n1,2", nil, api.ErrForm},
		// Names: one that is there twice, whichever it is and wherever it stands, ahead of one that is no column's, and both ahead of the rows.
		{1, "b,b", nil, api.ErrTwice}, {1, "q,q", nil, api.ErrTwice}, {1, "q,b,b", nil, api.ErrTwice}, {1, "b,q,b", nil, api.ErrTwice}, {1, "b,a,q,c,b", nil, api.ErrTwice}, {1, "b,b\r\n1", nil, api.ErrTwice}, {1, ",", nil, api.ErrTwice}, {1, "b,\"b\"", nil, api.ErrTwice}, {1, "q", nil, api.ErrNone}, {1, "b,q\r\n1", nil, api.ErrNone}, {1, "\r\n", nil, api.ErrNone}, {1, "\"\"", nil, api.ErrNone}, {1, "b,", nil, api.ErrNone}, {1, "B", nil, api.ErrNone}, {1, " b", nil, api.ErrNone}, {1, "b,\xff", nil, api.ErrNone}, {1, "a,b,c,d,e", nil, api.ErrNone}, {3, "a", nil, api.ErrNone}, {4, "c", nil, api.ErrNone}, {7, "b", nil, api.ErrNone},
		// How many fields a row has, ahead of what they are.
		{1, "b\r\n1,2", nil, api.ErrForm}, {1, "b,a\r\nx", nil, api.ErrForm}, {1, "b,a\r\n" + long, nil, api.ErrForm}, {1, "b,a\r\n\r\n", nil, api.ErrForm}, {1, "b,a\r\nx,1,", nil, api.ErrForm}, {1, "b,a\r\nx,1\r\n\r\n", nil, api.ErrForm}, {1, "b\r\nx\r\ny,z", nil, api.ErrForm}, {1, "a\r\n1,1", nil, api.ErrForm},
		// The first field that has no value for its slot, ahead of what lacks.
		{1, "b,a\r\nx,y", nil, api.ErrForm}, {1, "b,a\r\nx,", nil, api.ErrForm}, {1, "b,a\r\nx, 1", nil, api.ErrForm}, {1, "b,a\r\nx,9223372036854775808", nil, api.ErrNum}, {1, "b,a\r\nx,null", nil, api.ErrType}, {1, "b,a\r\nx,[[[[[]]]]]", nil, api.ErrDeep}, {1, "b\r\n" + long, nil, api.ErrLong}, {1, "b\r\n\xff", nil, api.ErrLong}, {1, "b,c\r\nx,1", nil, api.ErrType}, {1, "b,c\r\nx,", nil, api.ErrType}, {1, "a,b\r\nnull,\xff", nil, api.ErrType}, {1, "b,a\r\n\xff,null", nil, api.ErrLong}, {1, "a,c\r\n9223372036854775808,1", nil, api.ErrNum}, {1, "c,a\r\n1,9223372036854775808", nil, api.ErrType}, {2, "b\r\nnul", nil, api.ErrForm}, {2, "b\r\n5", nil, api.ErrType}, {1, "a\r\nnull", nil, api.ErrType}, {1, "c,a\r\nq,x", nil, api.ErrForm}, {8, "c\r\n'q", nil, api.ErrType}, {9, "c\r\nq", nil, api.ErrForm},
		// What lacks.
		{1, "a\r\n1", nil, api.ErrLack}, {1, "a,c,d\r\n1,q,null\r\n", nil, api.ErrLack}, {6, "a,d,z\r\ntrue,1,2", nil, api.ErrLack},
		// Row by row.
		{1, "a\r\n1\r\n1,2", nil, api.ErrLack}, {1, "a\r\n1,2\r\n1", nil, api.ErrForm}, {1, "a\r\nnull\r\n1", nil, api.ErrType}, {1, "a\r\n1\r\nnull", nil, api.ErrLack}, {1, "b,a\r\nx,1\r\nx,null\r\nx", nil, api.ErrType}, {1, "b,a\r\nx,1\r\nx\r\nx,null", nil, api.ErrForm}, {1, "b,a\r\nx,1\r\n" + long + ",1\r\nx,null", nil, api.ErrLong},
	} {
		get(t, tmpl(), c.v, api.AsCsv, c.s, c.l, c.e)
		if l, e := said(layouts()[c.v], api.AsCsv, c.s); e != c.e || shapes(l) != shapes(c.l) {
			t.Errorf("%.100q: %s %d, by the words", c.s, shapes(l), e)
		}
	}
	get(t, tmpl(), 1, api.AsCsv, strings.Repeat("q,", 200000)+"q", nil, api.ErrTwice)
	var names strings.Builder
	for i := range 200000 {
		fmt.Fprintf(&names, "n%d,", i)
	}
	get(t, tmpl(), 1, api.AsCsv, names.String()+"b", nil, api.ErrNone)
	get(t, tmpl(), 1, api.AsCsv, names.String()+"n0", nil, api.ErrTwice)
}

// TestP162CsvTexts: P16.2, all texts of up to seven of some parts, and all rows of names with all of two rows behind, against the chapter's words.
func TestP162CsvTexts(t *testing.T) {
	n := counts{}
	parts := []string{"a", "b", ",", "\r\n", `"`, "5"}
	var on func(s string, left int)
	on = func(s string, left int) {
		n.same(t, small(), smallLayout(), 1, api.AsCsv, s)
		for _, p := range parts {
			if left > 0 {
				on(s+p, left-1)
			}
		}
	}
	on("", 7)
	heads := []string{"b", "a", "d", "c", "z", "q", "b,a", "a,b", "b,c", "c,b", "b,d", "d,z", "b,b", "q,q", "b,q", "d,c,b", "b,z,a", "a,z,d,c", "c,d,b,a", "b,d,q,b", ""}
	bodies := []string{"5", "k", "null", "", "[]", "'k", "\xff", "[[[[[]]]]]", "99999999999999999999", "5,k", "k,5", "null,null", "k,true", "true,null", "k,k", "[],5", "5,[],q", "k,[],5", "true,5,null,k", "true,5,null,'k", "k,null,\"\"\"k\"\"\",5", ",", ",,"}
	for v, cols := range layouts()[1:] {
		for _, head := range heads {
			for _, x := range bodies {
				n.same(t, tmpl(), cols, v+1, api.AsCsv, head+"\r\n"+x+"\r\n")
				for _, y := range bodies {
					n.same(t, tmpl(), cols, v+1, api.AsCsv, head+"\r\n"+x+"\r\n"+y+"\r\n")
				}
			}
		}
	}
	n.all(t, 20, api.OK, api.ErrForm, api.ErrDeep, api.ErrLong, api.ErrNum, api.ErrTwice, api.ErrNone, api.ErrType, api.ErrLack)
}

// bytesOf is a number of rows, and values' bytes.
func bytesOf(n int, l ...api.Value) string {
	b := bin.Num(n)
	for _, v := range l {
		b = append(b, bin.Value(v)...)
	}
	return string(b)
}

// TestP162BinWritten: P16.2, bytes of layer 6, each error and which of several is the first, written out.
func TestP162BinWritten(t *testing.T) {
	a, b, c, d := num(1), str("x"), sym("q"), list(num(1))
	right := rows(row(a, b, c, d))
	for _, x := range []struct {
		v int
		s string
		l [][]api.Value
		e api.Errno
	}{
		{1, bytesOf(0), nil, api.OK}, {1, bytesOf(1, a, b, c, d), right, api.OK}, {1, bytesOf(2, a, b, c, d, a, b, c, null), rows(row(a, b, c, d), row(a, b, c, null)), api.OK}, {2, bytesOf(1, a, null, c, d), rows(row(a, null, c, d)), api.OK}, {4, bytesOf(1, a, b, d), rows(row(a, b, d)), api.OK}, {6, bytesOf(1, yes, b, a, d), rows(row(yes, b, a, d)), api.OK}, {9, bytesOf(2, list(), a, d, b, no, a, d, c), rows(row(list(), a, d, b), row(no, a, d, c)), api.OK},
		// The number isn't there.
		{1, "", nil, api.ErrForm}, {1, "\x00", nil, api.ErrForm}, {1, "\x00\x00\x00", nil, api.ErrForm}, {1, "\x7f\xff\xff", nil, api.ErrForm}, {1, "\x80\x00\x00\x00", nil, api.ErrForm}, {1, "\xff\xff\xff\xff", nil, api.ErrForm}, {1, "\xff\x00\x00\x01" + bytesOf(1, a, b, c, d)[4:], nil, api.ErrForm},
		// It is too much, whatever stands behind.
		{1, bytesOf(101), nil, api.ErrLong}, {1, bytesOf(102, b), nil, api.ErrLong}, {1, bytesOf(256), nil, api.ErrLong}, {1, bytesOf(math.MaxInt32), nil, api.ErrLong}, {1, bytesOf(101) + "\xff", nil, api.ErrLong}, {1, bytesOf(101, times(404, a)...), nil, api.ErrLong}, {1, bytesOf(101, slices.Repeat([]api.Value{a, b, c, d}, 101)...), nil, api.ErrLong}, {1, bytesOf(100, slices.Repeat([]api.Value{a, b, c, d}, 100)...), times(100, right[0]), api.OK}, {1, bytesOf(1<<24 + 1), nil, api.ErrLong},
		// They aren't bytes of so many rows, ahead of whether what is there fits.
		{1, bytesOf(100), nil, api.ErrForm}, {1, bytesOf(1), nil, api.ErrForm}, {1, bytesOf(0) + "\x00", nil, api.ErrForm}, {1, bytesOf(0, a), nil, api.ErrForm}, {1, bytesOf(1, a, b, c), nil, api.ErrForm}, {1, bytesOf(1, a, b, c, d, null), nil, api.ErrForm}, {1, bytesOf(1, a, b, c, d) + "\xff", nil, api.ErrForm}, {1, bytesOf(2, a, b, c, d), nil, api.ErrForm}, {1, bytesOf(1, a, b, c, d, a, b, c, d), nil, api.ErrForm}, {1, bytesOf(1, b, b, b), nil, api.ErrForm}, {1, bytesOf(1, b, b, b, b, b), nil, api.ErrForm}, {1, bytesOf(2, b, b, c, d, a, b, c), nil, api.ErrForm}, {1, bytesOf(100, slices.Repeat([]api.Value{a, b, c, d}, 101)...), nil, api.ErrForm}, {4, bytesOf(1, a, b, c, d), nil, api.ErrForm}, {1, bytesOf(1, a, b, c) + "\x06", nil, api.ErrForm}, {1, bytesOf(1, a, b) + "\x03\x00\x00\x00\x011\x00", nil, api.ErrForm}, {1, bytesOf(1, a) + "\x04\x00\x00\x00\x01\xff" + bytesOf(0, c, d)[4:], nil, api.ErrForm}, {1, bytesOf(1, a, b, c) + strings.Repeat("\x05\x00\x00\x00\x01", 5) + "\x00", nil, api.ErrForm}, {1, bytesOf(1, a, b, c) + "\x05\x00\x00\x00\x15" + strings.Repeat("\x00", 21), nil, api.ErrForm}, {1, bytesOf(1, b, b, c) + "\x01\x02", nil, api.ErrForm},
		// A value doesn't fit.
		{1, bytesOf(1, b, b, c, d), nil, api.ErrType}, {1, bytesOf(1, a, null, c, d), nil, api.ErrType}, {1, bytesOf(1, a, b, b, d), nil, api.ErrType}, {1, bytesOf(2, a, b, c, d, a, b, null, d), nil, api.ErrType}, {8, bytesOf(1, yes, a, d, b), nil, api.ErrType}, {6, bytesOf(1, b, b, a, d), nil, api.ErrType}, {1, bytesOf(1, d, c, b, a), nil, api.ErrType},
	} {
		get(t, tmpl(), x.v, api.AsBin, x.s, x.l, x.e)
		if l, e := said(layouts()[x.v], api.AsBin, x.s); e != x.e || shapes(l) != shapes(x.l) {
			t.Errorf("%.100q: %s %d, by the words", x.s, shapes(l), e)
		}
	}
}

// TestP162BinTurned: P16.2, lists' bytes with each byte turned to each other one, away, doubled, or the last one, and all rows of up to five of some values, against the chapter's words.
func TestP162BinTurned(t *testing.T) {
	n := counts{}
	for v, cols := range layouts()[1:] {
		v++
		ask := func(s string) {
			t.Helper()
			n.same(t, tmpl(), cols, v, api.AsBin, s)
		}
		l := rows(fitRow(cols, v), fitRow(cols, v+1))
		for i := range l {
			for j := range l[i] {
				if len(bin.Value(l[i][j])) > 20 {
					l[i][j] = cols[j].def
				}
			}
		}
		s := written(t, cols, api.AsBin, l)
		for i := range len(s) {
			for x := range 256 {
				ask(s[:i] + string([]byte{byte(x)}) + s[i+1:])
			}
			ask(s[:i] + s[i+1:])
			ask(s[:i+1] + s[i:])
			ask(s[:i])
		}
		var on func(l []api.Value)
		on = func(l []api.Value) {
			for rows := range 4 {
				ask(bytesOf(rows, l...))
			}
			for _, x := range []api.Value{null, num(1), str("k"), sym("k")} {
				if len(l) < 5 {
					on(append(slices.Clip(l), x))
				}
			}
		}
		on(nil)
	}
	n.all(t, 100, api.OK, api.ErrForm, api.ErrLong, api.ErrType)
}

// TestP162Bytes: P16.2, lists' JSON and CSV with each byte turned to some others, away, doubled, or the last one, against the chapter's words.
func TestP162Bytes(t *testing.T) {
	for _, form := range []int{api.AsJson, api.AsCsv} {
		n := counts{}
		for v, cols := range layouts()[1:] {
			v++
			l := rows(fitRow(cols, v), fitRow(cols, v+1))
			for i := range l {
				for j := range l[i] {
					if len(value.Text(l[i][j])) > 20 {
						l[i][j] = cols[j].def
					}
				}
			}
			s := written(t, cols, form, l)
			for i := range len(s) {
				for _, x := range []byte("ab1-.\"\\'[]{},: \r\n\x00\xff") {
					n.same(t, tmpl(), cols, v, form, s[:i]+string([]byte{x})+s[i+1:])
					n.same(t, tmpl(), cols, v, form, s[:i]+string([]byte{x})+s[i:])
				}
				n.same(t, tmpl(), cols, v, form, s[:i]+s[i+1:])
				n.same(t, tmpl(), cols, v, form, s[:i+1]+s[i:])
				n.same(t, tmpl(), cols, v, form, s[:i])
			}
		}
		if n[api.OK] < 100 || n[api.ErrForm] < 1000 || n[api.ErrType] < 50 {
			t.Error(form, n)
		}
	}
}

// TestP162Same: P16.2, lists that are the same, and all others, that differ in a value, a row, or how many there are.
func TestP162Same(t *testing.T) {
	l := [][][]api.Value{nil, {nil}, {nil, nil}, {{null}}, {{null, null}}, {{null}, {null}}, {nil, {null}}, {{null}, nil}, {{null}, {null}, {null}}}
	for _, v := range append(rightValues()[1:], wrongValues()...) {
		l = append(l, rows(row(v)), rows(row(v, null)), rows(row(null, v)), rows(row(v), row(null)), rows(row(null), row(v)))
	}
	for i, a := range l {
		for j, b := range l {
			if got := codec.Same(a, b); got != (i == j) {
				t.Errorf("%s and %s: %t", shapes(a), shapes(b), got)
			}
		}
		c := slices.Clone(a)
		for n, r := range c {
			c[n] = make([]api.Value, 0, len(r)+2)
			for _, v := range r {
				c[n] = append(c[n], value.Copy(v))
			}
		}
		if !codec.Same(a, c) || !codec.Same(c, a) {
			t.Errorf("%s isn't the same as its like", shapes(a))
		}
	}
	if !codec.Same(nil, [][]api.Value{}) || !codec.Same(rows(nil), rows([]api.Value{})) || !codec.Same(rows(row(api.Value{L: []api.Value{}})), rows(row(null))) {
		t.Error("an empty list isn't as none is")
	}
}

// columns are a version's of any right template, as the layouts are.
func columns(x api.Template, v int) []column {
	y, _ := schema.At(x, v)
	var l []column
	for _, n := range y.Cols {
		s := y.Slots[n]
		l = append(l, column{s.Name, s.Types, s.Def, s.Req})
	}
	return l
}

// some is a right value of one of some kinds.
func some(r *rand.Rand, types int) api.Value {
	for {
		if v := rightValues()[r.IntN(len(rightValues()))]; fits(types, v) {
			return v
		}
	}
}

// someTemplate is a right template of many steps, of up to eight columns.
func someTemplate(r *rand.Rand) api.Template {
	names := []string{"a", "b", "c", "d", "e", "f", "g", "h", "sym", "null"}
	slot := func() api.Slot {
		v := some(r, any6)
		types := 1 << v.Kind
		if r.IntN(2) == 0 {
			types |= r.IntN(64)
		}
		return api.Slot{Name: names[r.IntN(len(names))], Types: types, Def: v}
	}
	x := api.Template{Name: "t"}
	for _, i := range r.Perm(len(names))[:1+r.IntN(8)] {
		s := slot()
		s.Name, s.Req = names[i], r.IntN(3) == 0
		x.Slots = append(x.Slots, s)
	}
	for range 40 {
		col, s := r.IntN(8), slot()
		y := x
		y.Steps = append(slices.Clone(x.Steps), []api.Step{{Kind: api.Add, Slot: s}, {Kind: api.Lose, Col: col}, {Kind: api.Rename, Col: col, Slot: api.Slot{Name: s.Name}}, {Kind: api.Widen, Col: col, Slot: api.Slot{Types: s.Types}}, {Kind: api.Reorder, Order: r.Perm(1 + r.IntN(8))}}[r.IntN(5)])
		if schema.Right(y) {
			x = y
		}
	}
	return x
}

// again asks for a list's bytes of a form, and for the list of these.
func again(t *testing.T, x api.Template, v, form int, l [][]api.Value) string {
	t.Helper()
	b, e := codec.Encode(x, v, form, l)
	got, f := codec.Decode(x, v, form, b)
	if e != api.OK || f != api.OK || !codec.Same(got, l) || shapes(got) != shapes(l) {
		t.Fatalf("%+v, version %d, form %d: %.300s, as %.300q, %d, is %.300s, %d", x, v, form, shapes(l), b, e, shapes(got), f)
	}
	return string(b)
}

// TestP163: P16.3, lists of many templates' versions are put and got again, in each form, and what is put is what the chapter's words say.
func TestP163(t *testing.T) {
	r := rand.New(rand.NewPCG(16, 3))
	asked := 0
	for range 150 {
		x := someTemplate(r)
		for v := 1; v <= schema.Last(x); v++ {
			cols := columns(x, v)
			l := make([][]api.Value, r.IntN(6))
			for i := range l {
				for _, c := range cols {
					l[i] = append(l[i], some(r, c.types))
				}
			}
			for _, form := range allForms() {
				if s := again(t, x, v, form, l); s != written(t, cols, form, l) {
					t.Fatalf("%+v, version %d, form %d: %q", x, v, form, s)
				}
				asked++
			}
		}
	}
	if asked < 1000 {
		t.Error(asked)
	}
}

// TestP163Values: P16.3, each right value, of a slot of each set of kinds that it fits, in each form.
func TestP163Values(t *testing.T) {
	for _, v := range rightValues() {
		for types := 1; types < 64; types++ {
			if fits(types, v) {
				for _, form := range allForms() {
					again(t, one(types, v), 1, form, rows(row(v), row(v)))
				}
			}
		}
	}
}

// TestP163Most: P16.3, lists as great as they may be.
func TestP163Most(t *testing.T) {
	full := list(append(times(4, list(times(20, sym(strings.Repeat("z", 40)))...)), times(15, num(math.MinInt64))...)...)
	if value.Nodes(full) != 100 {
		t.Fatal(value.Nodes(full))
	}
	texts := list(times(20, str(strings.Repeat("\x01", 200)))...)
	x := api.Template{Name: "t"}
	for i := range 8 {
		x.Slots = append(x.Slots, api.Slot{Name: strings.Repeat(string(rune('a'+i)), 40), Types: any6})
	}
	for _, v := range []api.Value{full, texts, str(strings.Repeat(`"`, 200)), nest(4, sym("a")), null} {
		l := times(100, times(8, v))
		for _, form := range allForms() {
			if s := again(t, x, 1, form, l); s != written(t, columns(x, 1), form, l) {
				t.Errorf("%s: %d bytes of form %d", shape(v), len(s), form)
			}
			put(t, x, 1, form, append(l, l[0]), "", api.ErrLong)
		}
	}
}

// TestP163Library: P16.1 and P16.3, what is put as the library reads it: JSON and CSV, row by row, field by field.
func TestP163Library(t *testing.T) {
	for v, cols := range layouts()[1:] {
		v++
		// The library's CSV takes d a in quotes as a alone, and no other row ends are there.
		l := rows(fitRow(cols, 0), fitRow(cols, 3), fitRow(cols, 5))
		b, _ := codec.Encode(tmpl(), v, api.AsJson, l)
		var objects []map[string]any
		if err := standard.Unmarshal(b, &objects); err != nil || len(objects) != len(l) {
			t.Fatalf("%q: %v", b, err)
		}
		b, _ = codec.Encode(tmpl(), v, api.AsCsv, l)
		texts, err := library.NewReader(bytes.NewReader(b)).ReadAll()
		if err != nil || len(texts) != len(l)+1 {
			t.Fatalf("%q: %v", b, err)
		}
		for i, r := range l {
			if len(objects[i]) != len(cols) || len(texts[i+1]) != len(cols) {
				t.Errorf("%v, %q", objects[i], texts[i+1])
			}
			for j, c := range cols {
				_, ok := objects[i][c.name]
				if !ok || texts[0][j] != c.name {
					t.Errorf("version %d: no column %s", v, c.name)
				}
				if got, e := cell.OfField(slotOf(c), texts[i+1][j]); e != api.OK || shape(got) != shape(r[j]) && !strings.Contains(value.Text(r[j]), "\r\n") {
					t.Errorf("%q: %s, not %s", texts[i+1][j], shape(got), shape(r[j]))
				}
			}
		}
	}
}

// TestP163Forms: P16.3, and what follows of it: a list in one form comes to the same in another one.
func TestP163Forms(t *testing.T) {
	for v, cols := range layouts()[1:] {
		v++
		l := rows(fitRow(cols, 1), fitRow(cols, 2), fitRow(cols, 4))
		for _, a := range allForms() {
			b, _ := codec.Encode(tmpl(), v, a, l)
			got, _ := codec.Decode(tmpl(), v, a, b)
			for _, c := range allForms() {
				put(t, tmpl(), v, c, got, written(t, cols, c, l), api.OK)
			}
		}
	}
}

// roomy is a list with spare room, written full.
func roomy[T any](fill T, l ...T) []T {
	l = append(make([]T, 0, len(l)+3), l...)
	for i := range l[len(l):cap(l)] {
		l[len(l):cap(l)][i] = fill
	}
	return l
}

// whole tells values, and all that they have spare room for.
func whole(l []api.Value) string {
	s := fmt.Sprintf("%d of %d: ", len(l), cap(l))
	for _, v := range l[:cap(l)] {
		s += fmt.Sprintf("{%d %d %q %s}", v.Kind, v.N, v.S, whole(v.L))
	}
	return s
}

// wholeRows tells a list, and all that it has spare room for.
func wholeRows(l [][]api.Value) string {
	s := fmt.Sprintf("%d of %d: ", len(l), cap(l))
	for _, r := range l[:cap(l)] {
		s += "<" + whole(r) + ">"
	}
	return s
}

// roomyTmpl is a template of which all lists have spare room; each version's columns' Defs are Lists.
func roomyTmpl() api.Template {
	slot := func(name string) api.Slot {
		return api.Slot{Name: name, Types: li, Def: list(roomy(num(9), num(1), list(roomy(num(9), num(2))...))...)}
	}
	return api.Template{Name: "t", Slots: roomy(slot("fill"), slot("a"), slot("b")), Steps: roomy(api.Step{Kind: api.Lose}, api.Step{Kind: api.Add, Slot: slot("c")}, api.Step{Kind: api.Reorder, Order: roomy(9, 1, 2, 0)})}
}

// wholeTmpl tells a template, and all that it has spare room for.
func wholeTmpl(x api.Template) string {
	s := fmt.Sprintf("%s %d %d: ", x.Name, len(x.Slots), len(x.Steps))
	slot := func(y api.Slot) { s += fmt.Sprintf("%s %d %t %s; ", y.Name, y.Types, y.Req, whole([]api.Value{y.Def})) }
	for _, y := range x.Slots[:cap(x.Slots)] {
		slot(y)
	}
	for _, y := range x.Steps[:cap(x.Steps)] {
		s += fmt.Sprintf("%d %d %v ", y.Kind, y.Col, y.Order[:cap(y.Order)])
		slot(y.Slot)
	}
	return s
}

// roomyRows are so many rows for roomyTmpl's version 3, of which all lists have spare room.
func roomyRows(n int) [][]api.Value {
	var l [][]api.Value
	for i := range n {
		v := func(j int) api.Value {
			return list(roomy(num(8), list(roomy(num(8), num(int64(i)))...), num(int64(j)))...)
		}
		l = append(l, roomy(num(8), v(0), v(1), v(2)))
	}
	return roomy([]api.Value{num(8)}, l...)
}

// TestP16Kept: P16.1 and P16.2, what is handed in stays as it is, its spare room too, whatever comes of it.
func TestP16Kept(t *testing.T) {
	x, l, short := roomyTmpl(), roomyRows(3), roomyRows(101)
	for _, form := range allForms() {
		b, _ := codec.Encode(x, 3, form, l)
		b = roomy(byte('!'), b...)
		for _, s := range []string{"", `[{"a":[1]},{}]`, `[{"q":1}]`, "a\r\n[1]\r\n", "a,a", "\x00\x00\x00\x01", "[", `[{"b":[],"c":[1]}]`, "b,c\r\n[],[1]"} {
			c := roomy(byte('!'), []byte(s)...)
			tell := func() string {
				return wholeTmpl(x) + wholeRows(l) + wholeRows(short) + fmt.Sprintf("%q%q", b[:cap(b)], c[:cap(c)])
			}
			want := tell()
			for v := range 6 {
				codec.Encode(x, v, form, l)
				codec.Encode(x, v, form, short)
				codec.Encode(x, v, form, rows(l[0][:2]))
				codec.Decode(x, v, form, b)
				codec.Decode(x, v, form, c)
			}
			codec.Same(l, short)
			if got := tell(); got != want {
				t.Errorf("%s, not %s", got, want)
			}
		}
	}
}

// span is where a list lies in memory, its spare room too.
type span struct{ first, end uintptr }

// spanOf is a list's.
func spanOf[T any](l []T) span {
	var one T
	first := uintptr(unsafe.Pointer(unsafe.SliceData(l)))
	return span{first, first + uintptr(cap(l))*unsafe.Sizeof(one)}
}

// spans are those of all lists in a value that have room.
func spans(v api.Value) []span {
	if cap(v.L) == 0 {
		return nil
	}
	l := []span{spanOf(v.L)}
	for _, x := range v.L {
		l = append(l, spans(x)...)
	}
	return l
}

// rowsSpans are those of all lists in a list of rows.
func rowsSpans(l [][]api.Value) []span {
	s := []span{spanOf(l)}
	for _, r := range l {
		s = append(s, spanOf(r))
		for _, v := range r {
			s = append(s, spans(v)...)
		}
	}
	return s
}

// TestP16New: P16.1 and P16.2, an answer is new memory, and no two of its lists share any, nor do those of two answers, nor what was handed in.
func TestP16New(t *testing.T) {
	x, l := roomyTmpl(), roomyRows(3)
	all := rowsSpans(l)
	for _, s := range x.Slots {
		all = append(all, spans(s.Def)...)
	}
	all = append(all, spans(x.Steps[1].Slot.Def)...)
	ask := func(form int, b []byte) {
		t.Helper()
		for range 2 {
			got, e := codec.Decode(x, 3, form, b)
			if e != api.OK || len(got) < 2 {
				t.Fatal(form, got, e)
			}
			all = append(all, rowsSpans(got)...)
		}
		all = append(all, spanOf(b))
	}
	for _, form := range allForms() {
		b, _ := codec.Encode(x, 3, form, l)
		c, _ := codec.Encode(x, 3, form, l)
		all = append(all, spanOf(c))
		ask(form, b)
	}
	ask(api.AsJson, []byte(`[{},{},{"c":[[1],[1]]}]`))
	ask(api.AsCsv, []byte("b\r\n[[1] [1]]\r\n[[1] [1]]\r\n"))
	slices.SortFunc(all, func(a, b span) int { return cmp.Compare(a.first, b.first) })
	for i, b := range all[1:] {
		if a := all[i]; b.first < a.end {
			t.Errorf("%v and %v share memory", a, b)
		}
	}
	if len(all) < 100 {
		t.Error(len(all))
	}
}

// TestP16Bytes: P16.2, bytes that are written over behind a call change nothing of its answer, and one answer's bytes nothing of another's.
func TestP16Bytes(t *testing.T) {
	l := rows(row(num(1), str("text"), sym("name"), list(str("in"))))
	for _, form := range allForms() {
		b, _ := codec.Encode(tmpl(), 1, form, l)
		c, _ := codec.Encode(tmpl(), 1, form, l)
		got, _ := codec.Decode(tmpl(), 1, form, b)
		for i := range b[:cap(b)] {
			b[:cap(b)][i] = '#'
		}
		if shapes(got) != shapes(l) || string(c) != written(t, layouts()[1], form, l) {
			t.Errorf("form %d: %s, %q", form, shapes(got), c)
		}
	}
}
