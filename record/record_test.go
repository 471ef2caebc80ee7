package record_test

import (
	"fmt"
	"math"
	"math/rand/v2"
	"reflect"
	"slices"
	"strings"
	"testing"

	"douane/api"
	"douane/record"
	"douane/schema"
	"douane/value"
)

// The bits of kinds.
const (
	null = 1 << api.Null
	boo  = 1 << api.Bool
	in   = 1 << api.Int
	sy   = 1 << api.Sym
	st   = 1 << api.Str
	li   = 1 << api.List
	any6 = 63
)

func num(n int64) api.Value         { return api.Value{Kind: api.Int, N: n} }
func str(s string) api.Value        { return api.Value{Kind: api.Str, S: s} }
func sym(s string) api.Value        { return api.Value{Kind: api.Sym, S: s} }
func list(l ...api.Value) api.Value { return api.Value{Kind: api.List, L: l} }

// rightValues are right values of all kinds, some at the limits.
func rightValues() []api.Value {
	return []api.Value{{}, {Kind: api.Bool}, {Kind: api.Bool, N: 1}, num(0), num(math.MinInt64), num(math.MaxInt64), sym("a"), sym(strings.Repeat("z", api.MaxName)), str(""), str("a"), str(strings.Repeat("x", api.MaxStr)), list(), list(num(1), str("a")), list(list(list(list()))), list(slices.Repeat([]api.Value{num(1)}, api.MaxItems)...)}
}

// wrongValues are values that aren't right, of all kinds, and of none.
func wrongValues() []api.Value {
	row := list(slices.Repeat([]api.Value{num(1)}, api.MaxItems)...)
	return []api.Value{{N: 1}, {S: "a"}, {L: []api.Value{{}}}, {Kind: api.Bool, N: 2}, {Kind: api.Bool, N: -1}, {Kind: api.Int, S: "1"}, {Kind: api.Int, L: []api.Value{{}}}, sym(""), sym("1"), sym(strings.Repeat("z", api.MaxName+1)), {Kind: api.Sym, S: "a", N: 1}, str("\xff"), str(strings.Repeat("x", api.MaxStr+1)), {Kind: api.Str, N: 1}, {Kind: api.List, N: 1}, {Kind: api.List, S: "a"}, list(append(slices.Clone(row.L), num(1))...), list(list(list(list(list())))), list(row, row, row, row, row), list(sym("")), {Kind: 6}, {Kind: -1}, {Kind: 64}, {Kind: math.MaxInt}, {Kind: math.MinInt}}
}

// tmpl is a template of nine versions, as layouts tell them.
func tmpl() api.Template {
	return api.Template{Name: "t", Slots: []api.Slot{
		{Name: "a", Types: in, Def: num(7)},
		{Name: "b", Types: in | st, Req: true, Def: str("x")},
		{Name: "c", Types: li, Def: list(num(1), sym("s"))},
	}, Steps: []api.Step{
		{Kind: api.Reorder, Order: []int{2, 0, 1}},
		{Kind: api.Lose, Col: 1},
		{Kind: api.Add, Slot: api.Slot{Name: "a", Types: null | sy, Def: sym("n")}},
		{Kind: api.Widen, Col: 1, Slot: api.Slot{Types: null}},
		{Kind: api.Rename, Col: 0, Slot: api.Slot{Name: "z"}},
		{Kind: api.Reorder, Order: []int{2, 1, 0}},
		{Kind: api.Lose, Col: 1},
		{Kind: api.Add, Slot: api.Slot{Name: "b", Types: boo, Def: api.Value{Kind: api.Bool, N: 1}}},
	}}
}

// layout is a version of tmpl, written out: what each slot takes; its columns' slots and names; the one of these that must be told.
type layout struct {
	types, cols []int
	names       []string
	must        string
}

// layouts are tmpl's versions, by their numbers.
func layouts() []layout {
	return []layout{
		{},
		{[]int{in, in | st, li}, []int{0, 1, 2}, []string{"a", "b", "c"}, "b"},
		{[]int{in, in | st, li}, []int{2, 0, 1}, []string{"c", "a", "b"}, "b"},
		{[]int{in, in | st, li}, []int{2, 1}, []string{"c", "b"}, "b"},
		{[]int{in, in | st, li, null | sy}, []int{2, 1, 3}, []string{"c", "b", "a"}, "b"},
		{[]int{in, in | st | null, li, null | sy}, []int{2, 1, 3}, []string{"c", "b", "a"}, "b"},
		{[]int{in, in | st | null, li, null | sy}, []int{2, 1, 3}, []string{"z", "b", "a"}, "b"},
		{[]int{in, in | st | null, li, null | sy}, []int{3, 1, 2}, []string{"a", "b", "z"}, "b"},
		{[]int{in, in | st | null, li, null | sy}, []int{3, 2}, []string{"a", "z"}, ""},
		{[]int{in, in | st | null, li, null | sy, boo}, []int{3, 2, 4}, []string{"a", "z", "b"}, ""},
	}
}

// defs are the Defs of tmpl's slots, by their numbers.
func defs() []api.Value {
	return []api.Value{num(7), str("x"), list(num(1), sym("s")), sym("n"), {Kind: api.Bool, N: 1}}
}

// others are values that fit tmpl's slots and aren't their Defs, by their numbers.
func others() []api.Value {
	return []api.Value{num(-3), str("y"), list(list(), str("q")), {}, {Kind: api.Bool}}
}

// noVersions are numbers that are no version's of tmpl.
func noVersions() []int { return []int{0, -1, 10, 11, 256 + 1, math.MaxInt, math.MinInt} }

// wrongTemplates are tmpl with one thing that isn't right, wherever it stands.
func wrongTemplates() []api.Template {
	var l []api.Template
	for _, spoil := range []func(t *api.Template){
		func(t *api.Template) { *t = api.Template{} },
		func(t *api.Template) { t.Name = "1" },
		func(t *api.Template) { t.Slots[1].Name = "a" },
		func(t *api.Template) { t.Slots[0].Types = 64 | in },
		func(t *api.Template) { t.Slots[2].Def = num(1) },
		func(t *api.Template) { t.Steps[7].Slot.Def = num(1) },
		func(t *api.Template) { t.Steps[7].Slot.Req = true },
		func(t *api.Template) { t.Steps[7].Kind = 0 },
		func(t *api.Template) { t.Steps[6].Col = 3 },
		func(t *api.Template) { t.Steps = append(t.Steps, api.Step{Kind: api.Lose}) },
	} {
		t := tmpl()
		spoil(&t)
		l = append(l, t)
	}
	return l
}

// fits says whether a value fits a slot that takes some kinds. (Of the values here just wrongValues' aren't right.)
func fits(types int, v api.Value) bool {
	return !slices.ContainsFunc(wrongValues(), func(x api.Value) bool { return reflect.DeepEqual(x, v) }) && types>>v.Kind%2 == 1
}

// text is values' texts.
func text(l []api.Value) string {
	s := ""
	for _, v := range l {
		s += value.Text(v) + ";"
	}
	return s
}

// line is a record's version and values.
func line(r api.Rec) string { return fmt.Sprintf("%d: %s", r.V, text(r.S)) }

// turned is values with another one in a place.
func turned(l []api.Value, i int, v api.Value) []api.Value {
	l = slices.Clone(l)
	l[i] = v
	return l
}

// valid asks whether a record is, and holds Row and Set against that.
func valid(t *testing.T, x api.Template, r api.Rec, want bool) {
	t.Helper()
	if got := record.Valid(x, r); got != want {
		t.Errorf("%s: %t", line(r), got)
	}
	if l := record.Row(x, r); (len(l) > 0) != want {
		t.Errorf("%s: %t, its row: %s", line(r), want, text(l))
	}
	if len(r.S) > 0 {
		if s, e := record.Set(x, r, 0, r.S[0]); (e == api.OK) != want || e == api.OK && !record.Same(s, r) || e != api.OK && (e != api.ErrArg || line(s) != "0: ") {
			t.Errorf("%s: %t, Set: %s, %d", line(r), want, line(s), e)
		}
	}
}

// TestP111Valid: P11.1, each slot of each version, column or not, with right and wrong values.
func TestP111Valid(t *testing.T) {
	for v, y := range layouts() {
		for _, l := range [][]api.Value{defs(), others()} {
			l = l[:len(y.types)]
			valid(t, tmpl(), api.Rec{V: v, S: l}, v > 0)
			for i, types := range y.types {
				for _, x := range slices.Concat(rightValues(), wrongValues()) {
					valid(t, tmpl(), api.Rec{V: v, S: turned(l, i, x)}, fits(types, x))
				}
			}
		}
	}
}

// TestP111Lengths: P11.1, as many values as the version has slots, not as it has columns, nor as another one has.
func TestP111Lengths(t *testing.T) {
	for v, y := range layouts() {
		for n := range 6 {
			valid(t, tmpl(), api.Rec{V: v, S: defs()[:n]}, v > 0 && n == len(y.types))
		}
		valid(t, tmpl(), api.Rec{V: v, S: append(defs(), num(1))}, false)
		valid(t, tmpl(), api.Rec{V: v, S: slices.Repeat(defs(), 20)}, false)
		valid(t, tmpl(), api.Rec{V: v, S: []api.Value{}}, false)
	}
	one := api.Template{Name: "t", Slots: []api.Slot{{Name: "a", Types: in, Def: num(0)}}}
	for n := range 3 {
		valid(t, one, api.Rec{V: 1, S: slices.Repeat([]api.Value{num(1)}, n)}, n == 1)
	}
}

// TestP111Versions: P11.1, versions that there aren't, and templates that aren't right, though the version at hand would be.
func TestP111Versions(t *testing.T) {
	for n := range 6 {
		for _, v := range noVersions() {
			valid(t, tmpl(), api.Rec{V: v, S: defs()[:n]}, false)
		}
	}
	for _, x := range wrongTemplates() {
		for v, y := range layouts() {
			valid(t, x, api.Rec{V: v, S: defs()[:len(y.types)]}, false)
		}
		valid(t, x, api.Rec{}, false)
	}
}

// TestP111Row: P11.1, the columns' values, in their order.
func TestP111Row(t *testing.T) {
	for v, want := range []string{
		"",
		`-3;"y";[[] "q"];`,
		`[[] "q"];-3;"y";`,
		`[[] "q"];"y";`,
		`[[] "q"];"y";null;`,
		`[[] "q"];"y";null;`,
		`[[] "q"];"y";null;`,
		`null;"y";[[] "q"];`,
		`null;[[] "q"];`,
		`null;[[] "q"];false;`,
	} {
		l := others()[:len(layouts()[v].types)]
		if got := text(record.Row(tmpl(), api.Rec{V: v, S: l})); got != want {
			t.Errorf("version %d: %s, not %s", v, got, want)
		}
	}
}

// TestP111Same: P11.1, versions and values that are the same, whatever they are.
func TestP111Same(t *testing.T) {
	var l []api.Rec
	for _, v := range []int{-1, 0, 1, 2, math.MaxInt, math.MinInt} {
		l = append(l, api.Rec{V: v}, api.Rec{V: v, S: defs()}, api.Rec{V: v, S: defs()[:4]}, api.Rec{V: v, S: defs()[1:]}, api.Rec{V: v, S: []api.Value{num(7), num(7)}})
	}
	for _, x := range append(rightValues(), wrongValues()...) {
		l = append(l, api.Rec{V: 3, S: []api.Value{x}}, api.Rec{V: 3, S: []api.Value{x, num(2)}}, api.Rec{V: 3, S: []api.Value{num(2), x}})
	}
	for i, a := range l {
		for j, b := range l {
			if got := record.Same(a, b); got != (i == j) {
				t.Errorf("%+v, %+v: %t", a, b, got)
			}
		}
		c := api.Rec{V: a.V, S: slices.Clone(a.S)}
		for n := range c.S {
			c.S[n] = value.Copy(c.S[n])
		}
		if !record.Same(a, c) || !record.Same(c, a) {
			t.Errorf("%+v isn't the same as its like", a)
		}
	}
	if !record.Same(api.Rec{}, api.Rec{S: []api.Value{}}) || !record.Same(api.Rec{S: []api.Value{{L: []api.Value{}}}}, api.Rec{S: []api.Value{{}}}) {
		t.Error("an empty list isn't as none is")
	}
}

// picked are the values of slots of some numbers.
func picked(l []api.Value, numbers []int) []api.Value {
	var p []api.Value
	for _, n := range numbers {
		p = append(p, l[n])
	}
	return p
}

// made asks for the record of a row, and what it must be: beside an error, none.
func made(t *testing.T, x api.Template, v int, row []api.Value, want api.Rec, e api.Errno) {
	t.Helper()
	if got, f := record.Make(x, v, row); f != e || line(got) != line(want) {
		t.Errorf("version %d, row %s: %s, %d, not %s, %d", v, text(row), line(got), f, line(want), e)
	}
}

// TestP112Make: P11.2, each column of each version, with right and wrong values; what is no column has its Def.
func TestP112Make(t *testing.T) {
	for v, y := range layouts() {
		if v == 0 {
			continue
		}
		for _, from := range [][]api.Value{defs(), others()} {
			whole := defs()[:len(y.types)]
			for _, n := range y.cols {
				whole[n] = from[n]
			}
			row := picked(from, y.cols)
			made(t, tmpl(), v, row, api.Rec{V: v, S: whole}, api.OK)
			for i, n := range y.cols {
				for _, x := range slices.Concat(rightValues(), wrongValues()) {
					if fits(y.types[n], x) {
						made(t, tmpl(), v, turned(row, i, x), api.Rec{V: v, S: turned(whole, n, x)}, api.OK)
					} else {
						made(t, tmpl(), v, turned(row, i, x), api.Rec{}, api.ErrType)
					}
				}
			}
		}
	}
}

// TestP112MakeWritten: P11.2, records that are made, written out.
func TestP112MakeWritten(t *testing.T) {
	for _, c := range []struct {
		v    int
		row  []api.Value
		want string
	}{
		{1, []api.Value{num(1), num(2), list()}, "1: 1;2;[];"},
		{2, []api.Value{list(), num(1), num(2)}, "2: 1;2;[];"},
		{3, []api.Value{list(), num(2)}, "3: 7;2;[];"},
		{4, []api.Value{list(), num(2), sym("m")}, "4: 7;2;[];'m;"},
		{5, []api.Value{list(), {}, {}}, "5: 7;null;[];null;"},
		{7, []api.Value{sym("m"), num(2), list()}, "7: 7;2;[];'m;"},
		{8, []api.Value{sym("m"), list()}, `8: 7;"x";[];'m;`},
		{9, []api.Value{sym("m"), list(), {Kind: api.Bool}}, `9: 7;"x";[];'m;false;`},
	} {
		if r, e := record.Make(tmpl(), c.v, c.row); e != api.OK || line(r) != c.want {
			t.Errorf("%s, %d, not %s", line(r), e, c.want)
		}
	}
	b := api.Template{Name: "t", Slots: []api.Slot{{Name: "a", Types: in, Def: num(3)}, {Name: "b", Types: in, Def: num(4)}}, Steps: []api.Step{{Kind: api.Lose}}}
	made(t, b, 2, []api.Value{num(5)}, api.Rec{V: 2, S: []api.Value{num(3), num(5)}}, api.OK)
}

// TestP112Errors: P11.2, errors, and which of several is the first.
func TestP112Errors(t *testing.T) {
	for v, y := range layouts() {
		for n := range 12 {
			for _, x := range []api.Value{num(1), sym(""), {Kind: -1}} {
				row := slices.Repeat([]api.Value{x}, n)
				for _, w := range wrongTemplates() {
					made(t, w, v, row, api.Rec{}, api.ErrArg)
				}
				switch {
				case v == 0:
					made(t, tmpl(), v, row, api.Rec{}, api.ErrNone)
				case n != len(y.cols):
					made(t, tmpl(), v, row, api.Rec{}, api.ErrArg)
				default: // No version has columns of Int alone.
					made(t, tmpl(), v, row, api.Rec{}, api.ErrType)
				}
			}
		}
		if v > 0 {
			made(t, tmpl(), v, []api.Value{}, api.Rec{}, api.ErrArg)
		}
	}
	for _, v := range noVersions() {
		for n := range 6 {
			made(t, tmpl(), v, others()[:n], api.Rec{}, api.ErrNone)
		}
		for _, w := range wrongTemplates() {
			made(t, w, v, nil, api.Rec{}, api.ErrArg)
		}
	}
}

// TestP113Set: P11.3, each slot of each version, column or not, with right and wrong values; slots that there aren't.
func TestP113Set(t *testing.T) {
	for v, y := range layouts() {
		if v == 0 {
			continue
		}
		r := api.Rec{V: v, S: others()[:len(y.types)]}
		for i, types := range y.types {
			for _, x := range slices.Concat(defs(), rightValues(), wrongValues()) {
				got, e := record.Set(tmpl(), r, i, x)
				want, f := api.Rec{}, api.ErrType
				if fits(types, x) {
					want, f = api.Rec{V: v, S: turned(r.S, i, x)}, api.OK
				}
				if e != f || line(got) != line(want) {
					t.Errorf("%s, slot %d, %s: %s, %d, not %s, %d", line(r), i, value.Text(x), line(got), e, line(want), f)
				}
			}
		}
		for _, i := range []int{-1, len(y.types), len(y.types) + 1, 8, 256, math.MaxInt, math.MinInt} {
			for _, x := range slices.Concat(defs(), wrongValues()) {
				if got, e := record.Set(tmpl(), r, i, x); e != api.ErrNone || line(got) != "0: " {
					t.Errorf("%s, slot %d, %s: %s, %d", line(r), i, value.Text(x), line(got), e)
				}
			}
		}
	}
}

// TestP113Errors: P11.3, records that aren't valid, whatever the slot and the value are, even one that would make it valid.
func TestP113Errors(t *testing.T) {
	ask := func(x api.Template, r api.Rec) {
		t.Helper()
		for i := -1; i < 6; i++ {
			for _, v := range slices.Concat(defs(), wrongValues()[:3]) {
				if got, e := record.Set(x, r, i, v); e != api.ErrArg || line(got) != "0: " {
					t.Errorf("%s, slot %d, %s: %s, %d", line(r), i, value.Text(v), line(got), e)
				}
			}
		}
	}
	for v, y := range layouts() {
		n := len(y.types)
		for i := range n {
			ask(tmpl(), api.Rec{V: v, S: turned(defs()[:n], i, api.Value{Kind: 6})})
		}
		for m := range 6 {
			if m != n || v == 0 {
				ask(tmpl(), api.Rec{V: v, S: defs()[:m]})
			}
		}
		for _, w := range wrongTemplates() {
			ask(w, api.Rec{V: v, S: defs()[:n]})
		}
	}
	for _, v := range noVersions() {
		ask(tmpl(), api.Rec{V: v, S: defs()})
	}
}

// filled asks for a row of names and values, and what it must be: beside an error, none.
func filled(t *testing.T, x api.Template, v int, names []string, vals []api.Value, want []api.Value, e api.Errno) {
	t.Helper()
	if got, f := record.Fill(x, v, names, vals); f != e || text(got) != text(want) {
		t.Fatalf("version %d, %q, %s: %s, %d, not %s, %d", v, names, text(vals), text(got), f, text(want), e)
	}
}

// fill is a row of tmpl's version, by the chapter's words.
func fill(v int, names []string, vals []api.Value) ([]api.Value, api.Errno) {
	if v < 1 || v > 9 {
		return nil, api.ErrNone
	}
	y := layouts()[v]
	had := map[string]int{}
	row := picked(defs(), y.cols)
	for i, name := range names {
		if had[name]++; had[name] > 1 {
			return nil, api.ErrTwice
		}
		c := slices.Index(y.names, name)
		if c < 0 {
			return nil, api.ErrNone
		}
		if !fits(y.types[y.cols[c]], vals[i]) {
			return nil, api.ErrType
		}
		row[c] = vals[i]
	}
	if y.must != "" && had[y.must] == 0 {
		return nil, api.ErrLack
	}
	return row, api.OK
}

// TestP114All: P11.4, all rows of up to three names and values, against the chapter's words.
func TestP114All(t *testing.T) {
	seen := map[api.Errno]int{}
	var on func(v int, names []string, vals []api.Value)
	on = func(v int, names []string, vals []api.Value) {
		want, e := fill(v, names, vals)
		filled(t, tmpl(), v, names, vals, want, e)
		seen[e]++
		if len(names) == 3 {
			return
		}
		for _, name := range []string{"a", "b", "c", "z", "A"} {
			for _, x := range []api.Value{num(1), {}, list(), sym("")} {
				on(v, append(slices.Clone(names), name), append(slices.Clone(vals), x))
			}
		}
	}
	for v := range 11 {
		on(v, nil, nil)
	}
	for _, e := range []api.Errno{api.OK, api.ErrTwice, api.ErrNone, api.ErrType, api.ErrLack} {
		if seen[e] < 10 {
			t.Errorf("error %d: %d times", e, seen[e])
		}
	}
}

// TestP114Values: P11.4, each column of each version told of right and wrong values, in each place among the names.
func TestP114Values(t *testing.T) {
	for v, y := range layouts() {
		for turn := range len(y.cols) {
			names := append(slices.Clone(y.names[turn:]), y.names[:turn]...)
			cols := append(slices.Clone(y.cols[turn:]), y.cols[:turn]...)
			for i := range cols {
				for _, x := range slices.Concat(rightValues(), wrongValues()) {
					vals := turned(picked(others(), cols), i, x)
					want, e := fill(v, names, vals)
					filled(t, tmpl(), v, names, vals, want, e)
				}
			}
		}
	}
}

// TestP114Written: P11.4, rows written out.
func TestP114Written(t *testing.T) {
	b, c, s := num(5), list(num(6)), sym("m")
	ask := func(v int, names string, vals []api.Value, want string, e api.Errno) {
		t.Helper()
		if got, f := record.Fill(tmpl(), v, strings.Fields(names), vals); f != e || text(got) != want {
			t.Errorf("version %d, %q, %s: %s, %d, not %s, %d", v, names, text(vals), text(got), f, want, e)
		}
	}
	ask(1, "b", []api.Value{b}, "7;5;[1 's];", api.OK)
	ask(1, "c b", []api.Value{c, b}, "7;5;[6];", api.OK)
	ask(2, "c b", []api.Value{c, b}, "[6];7;5;", api.OK)
	ask(2, "b a c", []api.Value{b, num(1), c}, "[6];1;5;", api.OK)
	ask(3, "b", []api.Value{b}, "[1 's];5;", api.OK)
	ask(3, "b a", []api.Value{b, num(1)}, "", api.ErrNone) // the column is lost
	ask(4, "a b", []api.Value{s, b}, "[1 's];5;'m;", api.OK)
	ask(4, "a b", []api.Value{num(1), b}, "", api.ErrType) // the column of that name is another one now
	ask(4, "b", []api.Value{{}}, "", api.ErrType)
	ask(5, "b", []api.Value{{}}, "[1 's];null;'n;", api.OK)
	ask(6, "b c", []api.Value{b, c}, "", api.ErrNone) // it is called z now
	ask(6, "b z", []api.Value{b, c}, "[6];5;'n;", api.OK)
	ask(7, "z a", []api.Value{c, s}, "", api.ErrLack)
	ask(7, "", nil, "", api.ErrLack)
	ask(8, "", nil, "'n;[1 's];", api.OK) // what had to be told is no column any more
	ask(8, "b", []api.Value{b}, "", api.ErrNone)
	ask(9, "b", []api.Value{{Kind: api.Bool}}, "'n;[1 's];false;", api.OK)
	ask(9, "", []api.Value{}, "'n;[1 's];true;", api.OK)
}

// TestP114Errors: P11.4, which of several errors is the first.
func TestP114Errors(t *testing.T) {
	none, bad := api.Value{}, sym("")
	for i, c := range []struct {
		v     int
		names []string
		vals  []api.Value
		want  api.Errno
	}{
		{1, []string{"b"}, nil, api.ErrArg}, {1, nil, []api.Value{num(1)}, api.ErrArg}, {1, []string{"b", "a"}, []api.Value{num(1)}, api.ErrArg}, {1, []string{"q"}, []api.Value{num(1), num(1)}, api.ErrArg},
		{0, []string{"b"}, nil, api.ErrArg}, {10, nil, []api.Value{num(1)}, api.ErrArg}, {-1, []string{"b", "b"}, []api.Value{bad}, api.ErrArg},
		{0, []string{"b"}, []api.Value{num(1)}, api.ErrNone}, {10, []string{"b", "b"}, []api.Value{num(1), num(1)}, api.ErrNone}, {10, nil, nil, api.ErrNone},
		{1, []string{"b", "b"}, []api.Value{num(1), bad}, api.ErrTwice}, {1, []string{"b", "b"}, []api.Value{bad, num(1)}, api.ErrType}, {1, []string{"a", "a"}, []api.Value{num(1), num(1)}, api.ErrTwice},
		{1, []string{"q", "q"}, []api.Value{none, none}, api.ErrNone}, {1, []string{"b", "q", "b"}, []api.Value{num(1), none, none}, api.ErrNone}, {1, []string{"b", "b", "q"}, []api.Value{num(1), none, none}, api.ErrTwice},
		{1, []string{"q", "a"}, []api.Value{num(1), bad}, api.ErrNone}, {1, []string{"a", "q"}, []api.Value{bad, num(1)}, api.ErrType}, {1, []string{"q"}, []api.Value{bad}, api.ErrNone},
		{1, []string{"a", "c", "a"}, []api.Value{num(1), num(1), num(1)}, api.ErrType}, {1, []string{"a", "c", "a"}, []api.Value{num(1), list(), none}, api.ErrTwice},
		{1, []string{"a"}, []api.Value{none}, api.ErrType}, {1, []string{""}, []api.Value{none}, api.ErrNone}, {1, []string{"B"}, []api.Value{num(1)}, api.ErrNone}, {1, []string{"b "}, []api.Value{num(1)}, api.ErrNone}, {1, []string{"\xff"}, []api.Value{num(1)}, api.ErrNone},
		{1, []string{"a", "c"}, []api.Value{num(1), list()}, api.ErrLack}, {1, []string{}, []api.Value{}, api.ErrLack},
	} {
		if got, e := record.Fill(tmpl(), c.v, c.names, c.vals); e != c.want || len(got) != 0 {
			t.Errorf("%d: %s, %d, not %d", i, text(got), e, c.want)
		}
		for _, w := range wrongTemplates() {
			filled(t, w, c.v, c.names, c.vals, nil, api.ErrArg)
		}
	}
	for _, w := range wrongTemplates() {
		filled(t, w, 1, []string{"b"}, []api.Value{num(1)}, nil, api.ErrArg)
	}
	for _, v := range noVersions() {
		filled(t, tmpl(), v, []string{"b"}, []api.Value{num(1)}, nil, api.ErrNone)
		filled(t, tmpl(), v, []string{"b"}, nil, nil, api.ErrArg)
	}
	many := slices.Repeat([]string{"b"}, 1000)
	filled(t, tmpl(), 1, many, slices.Repeat([]api.Value{num(1)}, 1000), nil, api.ErrTwice)
}

// TestP114Must: P11.4, each set of columns that must be told, and each set that is.
func TestP114Must(t *testing.T) {
	names := []string{"a", "b", "c", "d"}
	for must := range 16 {
		x := api.Template{Name: "t", Steps: []api.Step{{Kind: api.Reorder, Order: []int{3, 1, 0, 2}}, {Kind: api.Lose, Col: 1}}}
		for i, name := range names {
			x.Slots = append(x.Slots, api.Slot{Name: name, Types: in, Req: must>>i%2 == 1, Def: num(int64(i))})
		}
		for had := range 16 {
			var said []string
			var vals []api.Value
			all := []api.Value{num(0), num(1), num(2), num(3)}
			for i, name := range names {
				if had>>i%2 == 1 {
					said, vals = append(said, name), append(vals, num(int64(10+i)))
					all[i] = num(int64(10 + i))
				}
			}
			for v, cols := range map[int][]int{1: {0, 1, 2, 3}, 2: {3, 1, 0, 2}, 3: {3, 0, 2}} {
				switch {
				case v == 3 && had>>1%2 == 1:
					filled(t, x, v, said, vals, nil, api.ErrNone)
				case v == 3 && must&^2&^had != 0 || v < 3 && must&^had != 0:
					filled(t, x, v, said, vals, nil, api.ErrLack)
				default:
					filled(t, x, v, said, vals, picked(all, cols), api.OK)
				}
			}
		}
	}
}

// walks hands on right templates of many steps, of up to eight columns.
func walks(n int, each func(r *rand.Rand, x api.Template)) {
	r := rand.New(rand.NewPCG(3, 4))
	names := []string{"a", "b", "c", "d", "e", "f", "g", "h", "i", "j"}
	slot := func() api.Slot {
		v := some(r, any6)
		return api.Slot{Name: names[r.IntN(len(names))], Types: 1<<v.Kind | r.IntN(64), Def: v}
	}
	for range n {
		x := api.Template{Name: "t"}
		for _, i := range r.Perm(len(names))[:1+r.IntN(8)] {
			s := slot()
			s.Name, s.Req = names[i], r.IntN(3) == 0
			x.Slots = append(x.Slots, s)
		}
		for range 40 {
			col, s := r.IntN(8), slot()
			y := x
			y.Steps = append(slices.Clone(x.Steps), []api.Step{{Kind: api.Add, Slot: s}, {Kind: api.Lose, Col: col}, {Kind: api.Rename, Col: col, Slot: api.Slot{Name: s.Name}}, {Kind: api.Widen, Col: col, Slot: api.Slot{Types: s.Types}}, {Kind: api.Reorder, Order: r.Perm(1 + r.IntN(8))}}[r.IntN(5)])
			if schema.Right(y) {
				x = y
			}
		}
		each(r, x)
	}
}

// some is a right value of one of some kinds.
func some(r *rand.Rand, types int) api.Value {
	for {
		if v := rightValues()[r.IntN(len(rightValues()))]; types>>v.Kind%2 == 1 {
			return v
		}
	}
}

// TestP115: P11.5, records that are made, and Set, of many templates' versions.
func TestP115(t *testing.T) {
	asked, lost := 0, 0
	walks(200, func(r *rand.Rand, x api.Template) {
		for v := 1; v <= schema.Last(x); v++ {
			y, _ := schema.At(x, v)
			var row []api.Value
			var names []string
			whole := make([]api.Value, len(y.Slots))
			for i, s := range y.Slots {
				whole[i] = s.Def
			}
			for _, n := range y.Cols {
				whole[n] = some(r, y.Slots[n].Types)
				row, names = append(row, whole[n]), append(names, y.Slots[n].Name)
			}
			rec, e := record.Make(x, v, row)
			if e != api.OK || !record.Valid(x, rec) || rec.V != v || text(rec.S) != text(whole) || text(record.Row(x, rec)) != text(row) {
				t.Fatalf("%+v, version %d, %s: %s, %d, its row %s", x, v, text(row), line(rec), e, text(record.Row(x, rec)))
			}
			filled(t, x, v, names, row, row, api.OK)
			for range 4 {
				i := r.IntN(len(whole))
				whole[i] = some(r, y.Slots[i].Types)
				if rec, e = record.Set(x, rec, i, whole[i]); e != api.OK || !record.Valid(x, rec) || !record.Same(rec, api.Rec{V: v, S: whole}) || text(record.Row(x, rec)) != text(picked(whole, y.Cols)) {
					t.Fatalf("%+v, slot %d, %s: %s, %d", x, i, value.Text(whole[i]), line(rec), e)
				}
				asked++
			}
			lost += len(whole) - len(row)
		}
	})
	if asked < 1000 || lost < 500 {
		t.Error(asked, lost)
	}
}

// roomy is a list with spare room, written full.
func roomy[T any](fill T, l ...T) []T {
	l = append(make([]T, 0, len(l)+3), l...)
	for i := range l[len(l):cap(l)] {
		l[len(l):cap(l)][i] = fill
	}
	return l
}

// whole tells values, and all that they have spare room for.
func whole(l []api.Value) string {
	s := fmt.Sprintf("%d of %d: ", len(l), cap(l))
	for _, v := range l[:cap(l)] {
		s += fmt.Sprintf("{%d %d %q %s}", v.Kind, v.N, v.S, whole(v.L))
	}
	return s
}

// wholeTmpl tells a template, and all that it has spare room for.
func wholeTmpl(x api.Template) string {
	s := fmt.Sprintf("%s %d %d: ", x.Name, len(x.Slots), len(x.Steps))
	slot := func(y api.Slot) { s += fmt.Sprintf("%s %d %t %s; ", y.Name, y.Types, y.Req, whole([]api.Value{y.Def})) }
	for _, y := range x.Slots[:cap(x.Slots)] {
		slot(y)
	}
	for _, y := range x.Steps[:cap(x.Steps)] {
		s += fmt.Sprintf("%d %d %v ", y.Kind, y.Col, y.Order[:cap(y.Order)])
		slot(y.Slot)
	}
	return s
}

// deepTmpl is a template of which all lists have spare room; the columns of its version 4 are c, a and d, and b is none.
func deepTmpl() api.Template {
	def := func() api.Value { return list(roomy(num(9), num(1), list(roomy(num(9), num(2))...))...) }
	slot := func(name string) api.Slot { return api.Slot{Name: name, Types: li, Def: def()} }
	add := func(name string) api.Step { return api.Step{Kind: api.Add, Slot: slot(name)} }
	return api.Template{
		Name:  "t",
		Slots: roomy(slot("fill"), slot("a"), slot("b"), slot("c")),
		Steps: roomy(add("fill"), add("d"), api.Step{Kind: api.Lose, Col: 1}, api.Step{Kind: api.Reorder, Order: roomy(9, 1, 0, 2)}),
	}
}

// deepRow is so many values for deepTmpl, of which all lists have spare room, as it has itself.
func deepRow(n int) []api.Value {
	var l []api.Value
	for i := range n {
		l = append(l, list(roomy(num(8), list(roomy(num(8), num(int64(i)))...), num(4))...))
	}
	return roomy(num(8), l...)
}

// TestP11Kept: P11.1 to P11.4, what is handed in stays as it is, its spare room too.
func TestP11Kept(t *testing.T) {
	x, row, names := deepTmpl(), deepRow(3), roomy("spare", "d", "a")
	rec := api.Rec{V: 4, S: deepRow(4)}
	tell := func() string {
		return wholeTmpl(x) + whole(row) + whole(rec.S) + fmt.Sprintf("%q", names[:cap(names)])
	}
	want := tell()
	for v := range 6 {
		record.Make(x, v, row)
		record.Fill(x, v, names, row[:2])
		record.Valid(x, api.Rec{V: v, S: rec.S})
		record.Row(x, api.Rec{V: v, S: rec.S})
		for i := -1; i < 5; i++ {
			record.Set(x, api.Rec{V: v, S: rec.S}, i, row[0])
		}
		record.Same(rec, api.Rec{V: 4, S: row})
	}
	if got := tell(); got != want {
		t.Errorf("%s, not %s", got, want)
	}
}

// wipe writes over values, and all that they have spare room for.
func wipe(l []api.Value) {
	for i, v := range l[:cap(l)] {
		wipe(v.L)
		l[:cap(l)][i] = api.Value{Kind: api.Str, S: "wiped"}
	}
}

// TestP11New: P11.1 to P11.4, an answer is new memory, its spare room too, and shares none with what was handed in or another answer.
func TestP11New(t *testing.T) {
	x, row, names := deepTmpl(), deepRow(3), []string{"d", "a"}
	rec := api.Rec{V: 4, S: deepRow(4)}
	answers := []func() []api.Value{
		func() []api.Value { r, _ := record.Make(x, 4, row); return r.S },
		func() []api.Value { r, _ := record.Make(x, 1, row); return r.S },
		func() []api.Value { r, _ := record.Set(x, rec, 1, row[0]); return r.S },
		func() []api.Value { return record.Row(x, rec) },
		func() []api.Value { l, _ := record.Fill(x, 4, names, row[:2]); return l },
		func() []api.Value { l, _ := record.Fill(x, 3, nil, nil); return l },
		func() []api.Value { same := slices.Repeat(row[:1], 3); r, _ := record.Make(x, 4, same); return r.S },
	}
	tell := func() string { return wholeTmpl(x) + whole(row) + whole(rec.S) }
	want := tell()
	for i, answer := range answers {
		first, second := answer(), answer()
		told := text(second)
		if len(first) < 3 || text(first) != told {
			t.Fatalf("%d: %s, %s", i, text(first), told)
		}
		wipe(first)
		if tell() != want || text(second) != told || text(answer()) != told {
			t.Errorf("%d: an answer that was written changed others, or what was handed in", i)
		}
		third := answer()
		for j := range third {
			wipe(third[j].L)
			for k := range third {
				if k > j && value.Text(third[k]) != value.Text(second[k]) {
					t.Errorf("%d: values %d and %d of an answer share memory", i, j, k)
				}
			}
		}
	}
	r, _ := record.Make(x, 4, row)
	told := line(r)
	wipe(row)
	wipe(x.Slots[0].Def.L)
	wipe(x.Slots[1].Def.L)
	if line(r) != told {
		t.Error("it was kept")
	}
}
