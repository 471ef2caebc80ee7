package cast_test

import (
	"fmt"
	"math"
	"math/rand/v2"
	"reflect"
	"slices"
	"strings"
	"testing"

	"douane/api"
	"douane/cast"
	"douane/record"
	"douane/schema"
	"douane/value"
)

// The bits of kinds.
const (
	null = 1 << api.Null
	boo  = 1 << api.Bool
	in   = 1 << api.Int
	sy   = 1 << api.Sym
	st   = 1 << api.Str
	li   = 1 << api.List
)

func num(n int64) api.Value         { return api.Value{Kind: api.Int, N: n} }
func str(s string) api.Value        { return api.Value{Kind: api.Str, S: s} }
func sym(s string) api.Value        { return api.Value{Kind: api.Sym, S: s} }
func truth(n int64) api.Value       { return api.Value{Kind: api.Bool, N: n} }
func list(l ...api.Value) api.Value { return api.Value{Kind: api.List, L: l} }

// rightValues are right values of all kinds, some at the limits.
func rightValues() []api.Value {
	return []api.Value{{}, truth(0), truth(1), num(0), num(math.MinInt64), num(math.MaxInt64), sym("a"), sym(strings.Repeat("z", api.MaxName)), str(""), str(strings.Repeat("x", api.MaxStr)), list(), list(num(1), str("a")), list(list(list(list()))), list(slices.Repeat([]api.Value{{}}, api.MaxItems)...)}
}

// wrongValues are values that aren't right, of all kinds, and of none.
func wrongValues() []api.Value {
	return []api.Value{{N: 1}, {L: []api.Value{{}}}, truth(2), {Kind: api.Int, S: "1"}, sym(""), sym("1"), sym(strings.Repeat("z", api.MaxName+1)), str("\xff"), str(strings.Repeat("x", api.MaxStr+1)), {Kind: api.List, N: 1}, list(slices.Repeat([]api.Value{{}}, api.MaxItems+1)...), list(list(list(list(list())))), list(sym("")), {Kind: 6}, {Kind: -1}, {Kind: math.MaxInt}, {Kind: math.MinInt}}
}

// tmpl is a template of nine versions, as takes tells them.
func tmpl() api.Template {
	return api.Template{Name: "t", Slots: []api.Slot{
		{Name: "a", Types: in, Def: num(7)},
		{Name: "b", Types: in | st, Req: true, Def: str("x")},
		{Name: "c", Types: li, Def: list(num(1), sym("s"))},
	}, Steps: []api.Step{
		{Kind: api.Widen, Col: 0, Slot: api.Slot{Types: null}},
		{Kind: api.Add, Slot: api.Slot{Name: "d", Types: null | sy, Def: sym("n")}},
		{Kind: api.Reorder, Order: []int{3, 1, 0, 2}},
		{Kind: api.Widen, Col: 1, Slot: api.Slot{Types: boo | in}},
		{Kind: api.Lose, Col: 2},
		{Kind: api.Rename, Col: 0, Slot: api.Slot{Name: "a"}},
		{Kind: api.Widen, Col: 0, Slot: api.Slot{Types: in | li}},
		{Kind: api.Add, Slot: api.Slot{Name: "d", Types: boo, Def: truth(1)}},
	}}
}

// takes is what the slots of tmpl's versions take, written out, by the versions' numbers; the slot a, number 0, is no column from version 6 on.
func takes() [][]int {
	return [][]int{
		{},
		{in, in | st, li},
		{null | in, in | st, li},
		{null | in, in | st, li, null | sy},
		{null | in, in | st, li, null | sy},
		{null | in, boo | in | st, li, null | sy},
		{null | in, boo | in | st, li, null | sy},
		{null | in, boo | in | st, li, null | sy},
		{null | in, boo | in | st, li, null | sy | in | li},
		{null | in, boo | in | st, li, null | sy | in | li, boo},
	}
}

// last is tmpl's last version.
const last = 9

// defs are the Defs of tmpl's slots, by their numbers.
func defs() []api.Value {
	return []api.Value{num(7), str("x"), list(num(1), sym("s")), sym("n"), truth(1)}
}

// others are values that fit tmpl's slots at each version and aren't their Defs, by their numbers.
func others() []api.Value {
	return []api.Value{num(-3), str("y"), list(list(), str("q")), {}, truth(0)}
}

// wides are values that fit tmpl's slots, by their numbers, some just at the last version.
func wides() []api.Value { return []api.Value{{}, truth(0), list(), num(5), truth(0)} }

// numbers are versions that tmpl has, and others.
func numbers() []int {
	return []int{1, 2, 3, 4, 5, 6, 7, 8, 9, 0, -1, 10, 11, 256 + 1, -math.MaxInt, math.MaxInt, math.MinInt}
}

// wrongTemplates are tmpl with one thing that isn't right, wherever it stands.
func wrongTemplates() []api.Template {
	var l []api.Template
	for _, spoil := range []func(t *api.Template){
		func(t *api.Template) { *t = api.Template{} },
		func(t *api.Template) { t.Name = "1" },
		func(t *api.Template) { t.Slots[1].Name = "a" },
		func(t *api.Template) { t.Slots[0].Types = 64 | in },
		func(t *api.Template) { t.Slots[2].Def = num(1) },
		func(t *api.Template) { t.Steps[0].Slot.Types = in },
		func(t *api.Template) { t.Steps[1].Slot.Req = true },
		func(t *api.Template) { t.Steps[4].Col = 4 },
		func(t *api.Template) { t.Steps[7].Slot.Def = num(1) },
		func(t *api.Template) { t.Steps[7].Kind = 0 },
		func(t *api.Template) { t.Steps = append(t.Steps, api.Step{Kind: api.Lose}) },
	} {
		t := tmpl()
		spoil(&t)
		l = append(l, t)
	}
	return l
}

// fits says whether a value fits a slot that takes some kinds. (Of the values here just wrongValues' aren't right.)
func fits(types int, v api.Value) bool {
	return !slices.ContainsFunc(wrongValues(), func(x api.Value) bool { return reflect.DeepEqual(x, v) }) && types>>v.Kind%2 == 1
}

// line is a record as a text.
func line(r api.Rec) string {
	s := fmt.Sprintf("%d:", r.V)
	for _, v := range r.S {
		s += " " + value.Text(v)
	}
	return s
}

// turned is values with another one in a place.
func turned(l []api.Value, i int, v api.Value) []api.Value {
	l = slices.Clone(l)
	l[i] = v
	return l
}

// recs are valid records of tmpl's version: of each slot all that there is here to fit it.
func recs(v int) []api.Rec {
	var l []api.Rec
	n := len(takes()[v])
	wide := wides()[:n]
	for i, types := range takes()[v] {
		if !fits(types, wide[i]) {
			wide[i] = others()[i]
		}
	}
	for _, from := range [][]api.Value{defs()[:n], others()[:n], wide} {
		for i, types := range takes()[v] {
			for _, x := range rightValues() {
				if fits(types, x) {
					l = append(l, api.Rec{V: v, S: turned(from, i, x)})
				}
			}
		}
		l = append(l, api.Rec{V: v, S: from})
	}
	return l
}

// lifted is a valid record of tmpl's at a version that isn't ahead: what it has, and the Defs of slots that came.
func lifted(r api.Rec, v int) api.Rec {
	return api.Rec{V: v, S: append(slices.Clone(r.S), defs()[len(r.S):len(takes()[v])]...)}
}

// lowered is a valid record of tmpl's at a version that isn't behind: the values of the slots that it has, or Defs of those that they don't fit.
func lowered(r api.Rec, v int) api.Rec {
	l := slices.Clone(r.S[:len(takes()[v])])
	for i, types := range takes()[v] {
		if !fits(types, l[i]) {
			l[i] = defs()[i]
		}
	}
	return api.Rec{V: v, S: l}
}

// is asks whether a call's answer is a record, or, beside an error, none.
func is(t *testing.T, what string, got api.Rec, e api.Errno, want api.Rec, f api.Errno) {
	t.Helper()
	if f != api.OK {
		want = api.Rec{}
	}
	if e != f || line(got) != line(want) || e != api.OK && got.S != nil {
		t.Errorf("%s: %s, %d, not %s, %d", what, line(got), e, line(want), f)
	}
}

// TestP121Lift: P12.1, records of each version, of all that fits each slot; there is none behind the last.
func TestP121Lift(t *testing.T) {
	for v := 1; v <= last; v++ {
		for _, r := range recs(v) {
			got, e := cast.Lift(tmpl(), r)
			if v == last {
				is(t, line(r), got, e, api.Rec{}, api.ErrNone)
			} else {
				is(t, line(r), got, e, lifted(r, v+1), api.OK)
			}
		}
	}
}

// TestP121Lower: P12.1, records of each version, of all that fits each slot; there is none ahead of the first.
func TestP121Lower(t *testing.T) {
	replaced := 0
	for v := 1; v <= last; v++ {
		for _, r := range recs(v) {
			got, e := cast.Lower(tmpl(), r)
			if v == 1 {
				is(t, line(r), got, e, api.Rec{}, api.ErrNone)
				continue
			}
			want := lowered(r, v-1)
			is(t, line(r), got, e, want, api.OK)
			if line(want)[2:] != line(api.Rec{V: v, S: r.S[:len(want.S)]})[2:] {
				replaced++
			}
		}
	}
	if replaced < 20 {
		t.Errorf("just %d records had a value that doesn't fit the version ahead", replaced)
	}
}

// TestP121Written: P12.1, records step by step, written out.
func TestP121Written(t *testing.T) {
	rising := []string{
		"",
		`1: -3 "y" [[] "q"]`,
		`2: -3 "y" [[] "q"]`,
		`3: -3 "y" [[] "q"] 'n`,
		`4: -3 "y" [[] "q"] 'n`,
		`5: -3 "y" [[] "q"] 'n`,
		`6: -3 "y" [[] "q"] 'n`,
		`7: -3 "y" [[] "q"] 'n`,
		`8: -3 "y" [[] "q"] 'n`,
		`9: -3 "y" [[] "q"] 'n true`,
	}
	falling := []string{
		"",
		`1: 7 "x" []`,
		`2: null "x" []`,
		`3: null "x" [] 'n`,
		`4: null "x" [] 'n`,
		`5: null false [] 'n`,
		`6: null false [] 'n`,
		`7: null false [] 'n`,
		`8: null false [] 5`,
		`9: null false [] 5 false`,
	}
	up, down := api.Rec{V: 1, S: others()[:3]}, api.Rec{V: last, S: wides()}
	for n := range last - 1 {
		var e, f api.Errno
		up, e = cast.Lift(tmpl(), up)
		down, f = cast.Lower(tmpl(), down)
		if e != api.OK || f != api.OK || line(up) != rising[n+2] || line(down) != falling[last-1-n] {
			t.Fatalf("%s, %d; %s, %d", line(up), e, line(down), f)
		}
	}
}

// none is a template of one version: its records can neither be lifted nor lowered.
func none() api.Template {
	return api.Template{Name: "t", Slots: []api.Slot{{Name: "a", Types: in, Def: num(0)}}}
}

// TestP121Alone: P12.1 and P12.2, a template without steps.
func TestP121Alone(t *testing.T) {
	r := api.Rec{V: 1, S: []api.Value{num(1)}}
	got, e := cast.Lift(none(), r)
	is(t, "Lift", got, e, api.Rec{}, api.ErrNone)
	got, e = cast.Lower(none(), r)
	is(t, "Lower", got, e, api.Rec{}, api.ErrNone)
	got, e = cast.Newest(none(), r)
	is(t, "Newest", got, e, r, api.OK)
	for _, v := range numbers() {
		f := api.ErrNone
		if v == 1 {
			f = api.OK
		}
		got, e = cast.Up(none(), r, v)
		is(t, "Up", got, e, r, f)
		got, e = cast.Down(none(), r, v)
		is(t, "Down", got, e, r, f)
	}
}

// TestP122: P12.2, records of each version, of all that fits each slot, up and down to each version, and to none.
func TestP122(t *testing.T) {
	for from := 1; from <= last; from++ {
		for _, r := range recs(from) {
			for _, v := range numbers() {
				up, down, e, f := api.Rec{}, api.Rec{}, api.ErrNone, api.ErrNone
				if v >= from && v <= last {
					up, e = lifted(r, v), api.OK
				}
				if v >= 1 && v <= from {
					down, f = lowered(r, v), api.OK
				}
				what := fmt.Sprintf("%s to %d", line(r), v)
				got, g := cast.Up(tmpl(), r, v)
				is(t, what+", up", got, g, up, e)
				got, g = cast.Down(tmpl(), r, v)
				is(t, what+", down", got, g, down, f)
			}
			got, e := cast.Newest(tmpl(), r)
			is(t, line(r)+", newest", got, e, lifted(r, last), api.OK)
		}
	}
}

// TestP122Written: P12.2, records over several steps, written out.
func TestP122Written(t *testing.T) {
	for _, c := range []struct {
		v    int
		s    []api.Value
		to   int
		want string
	}{
		{1, []api.Value{num(1), num(2), list()}, 1, "1: 1 2 []"},
		{1, []api.Value{num(1), num(2), list()}, 2, "2: 1 2 []"},
		{1, []api.Value{num(1), num(2), list()}, 6, "6: 1 2 [] 'n"},
		{1, []api.Value{num(1), num(2), list()}, 9, "9: 1 2 [] 'n true"},
		{3, []api.Value{{}, num(2), list(), {}}, 9, "9: null 2 [] null true"},
		{9, []api.Value{{}, truth(1), list(), list(), truth(0)}, 9, "9: null true [] [] false"},
		{9, []api.Value{{}, truth(1), list(), list(), truth(0)}, 8, "8: null true [] []"},
		{9, []api.Value{{}, truth(1), list(), list(), truth(0)}, 7, "7: null true [] 'n"},
		{9, []api.Value{{}, truth(1), list(), list(), truth(0)}, 4, `4: null "x" [] 'n`},
		{9, []api.Value{{}, truth(1), list(), list(), truth(0)}, 2, `2: null "x" []`},
		{9, []api.Value{{}, truth(1), list(), list(), truth(0)}, 1, `1: 7 "x" []`},
		{9, []api.Value{num(1), num(2), list(), sym("m"), truth(0)}, 3, "3: 1 2 [] 'm"},
		{9, []api.Value{num(1), num(2), list(), {}, truth(0)}, 3, "3: 1 2 [] null"},
	} {
		r, how := api.Rec{V: c.v, S: c.s}, cast.Up
		if c.to < c.v {
			how = cast.Down
		}
		if got, e := how(tmpl(), r, c.to); e != api.OK || line(got) != c.want {
			t.Errorf("%s to %d: %s, %d, not %s", line(r), c.to, line(got), e, c.want)
		}
	}
	two := api.Template{Name: "t", Slots: none().Slots, Steps: []api.Step{{Kind: api.Add, Slot: api.Slot{Name: "b", Types: st, Def: str("d")}}}}
	one := api.Rec{V: 1, S: []api.Value{num(1)}}
	up, e := cast.Up(two, one, 2)
	is(t, "the chapter's up", up, e, api.Rec{V: 2, S: []api.Value{num(1), str("d")}}, api.OK)
	down, e := cast.Down(two, up, 1)
	is(t, "the chapter's down", down, e, one, api.OK)
}

// TestP122Widened: P12.2, a column that takes one kind more at each version: just what came to fit later is turned.
func TestP122Widened(t *testing.T) {
	x := api.Template{Name: "t", Slots: []api.Slot{{Name: "a", Types: in, Def: num(7)}}}
	kinds := []api.Value{num(1), {}, list(num(1)), truth(1), str("s"), sym("s")}
	for _, v := range kinds[1:] {
		x.Steps = append(x.Steps, api.Step{Kind: api.Widen, Slot: api.Slot{Types: 1 << v.Kind}})
	}
	for from := 1; from <= len(kinds); from++ {
		for came, v := range kinds[:from] {
			r := api.Rec{V: from, S: []api.Value{v}}
			for to := 1; to <= len(kinds); to++ {
				want := api.Rec{V: to, S: []api.Value{v}}
				if came+1 > to {
					want.S[0] = num(7)
				}
				how := cast.Up
				if to < from {
					how = cast.Down
				}
				got, e := how(x, r, to)
				is(t, line(r), got, e, want, api.OK)
			}
		}
	}
}

// refused asks all calls of a record and each version: ErrArg, whether there is such a version or not.
func refused(t *testing.T, x api.Template, r api.Rec) {
	t.Helper()
	what := fmt.Sprintf("%+v", r)
	got, e := cast.Lift(x, r)
	is(t, "Lift "+what, got, e, api.Rec{}, api.ErrArg)
	got, e = cast.Lower(x, r)
	is(t, "Lower "+what, got, e, api.Rec{}, api.ErrArg)
	got, e = cast.Newest(x, r)
	is(t, "Newest "+what, got, e, api.Rec{}, api.ErrArg)
	for _, v := range append(numbers(), r.V) {
		got, e = cast.Up(x, r, v)
		is(t, "Up "+what, got, e, api.Rec{}, api.ErrArg)
		got, e = cast.Down(x, r, v)
		is(t, "Down "+what, got, e, api.Rec{}, api.ErrArg)
	}
}

// TestP12Values: P12.1 and P12.2, each slot of each version with each value that doesn't fit it, even one that would after the step.
func TestP12Values(t *testing.T) {
	for v := 1; v <= last; v++ {
		for i, types := range takes()[v] {
			for _, x := range slices.Concat(rightValues(), wrongValues()) {
				if !fits(types, x) {
					refused(t, tmpl(), api.Rec{V: v, S: turned(others()[:len(takes()[v])], i, x)})
				}
			}
		}
	}
}

// TestP12Lengths: P12.1 and P12.2, not as many values as the version has slots, even as many as another one has.
func TestP12Lengths(t *testing.T) {
	for v := 1; v <= last; v++ {
		for n := range 6 {
			if n != len(takes()[v]) {
				refused(t, tmpl(), api.Rec{V: v, S: others()[:n]})
			}
		}
		refused(t, tmpl(), api.Rec{V: v, S: []api.Value{}})
		refused(t, tmpl(), api.Rec{V: v, S: slices.Repeat(others(), 20)})
	}
}

// TestP12Versions: P12.1 and P12.2, records of versions that there aren't, though the next one, or the one ahead, would be.
func TestP12Versions(t *testing.T) {
	for _, v := range numbers()[last:] {
		for n := range 6 {
			refused(t, tmpl(), api.Rec{V: v, S: others()[:n]})
		}
	}
}

// TestP12Templates: P12.1 and P12.2, templates that aren't right, though the versions at hand would be.
func TestP12Templates(t *testing.T) {
	for _, x := range wrongTemplates() {
		refused(t, x, api.Rec{})
		for v := 1; v <= last; v++ {
			refused(t, x, api.Rec{V: v, S: others()[:len(takes()[v])]})
		}
	}
}

// walks hands on right templates of many steps, with a valid record of each of their versions.
func walks(n int, each func(x api.Template, rs []api.Rec)) {
	r := rand.New(rand.NewPCG(5, 6))
	names := []string{"a", "b", "c", "d", "e", "f", "g", "h", "i", "j"}
	slot := func(name string) api.Slot {
		v := some(r, 63)
		return api.Slot{Name: name, Types: 1<<v.Kind | r.IntN(64)&r.IntN(64), Def: v}
	}
	for range n {
		x := api.Template{Name: "t"}
		for _, i := range r.Perm(len(names))[:1+r.IntN(6)] {
			x.Slots = append(x.Slots, slot(names[i]))
		}
		for range 30 {
			col, s := r.IntN(8), slot(names[r.IntN(len(names))])
			y := x
			y.Steps = append(slices.Clone(x.Steps), []api.Step{{Kind: api.Add, Slot: s}, {Kind: api.Lose, Col: col}, {Kind: api.Rename, Col: col, Slot: api.Slot{Name: s.Name}}, {Kind: api.Widen, Col: col, Slot: api.Slot{Types: s.Types}}, {Kind: api.Reorder, Order: r.Perm(1 + r.IntN(8))}}[r.IntN(5)])
			if schema.Right(y) {
				x = y
			}
		}
		var rs []api.Rec
		for v := 1; v <= schema.Last(x); v++ {
			y, _ := schema.At(x, v)
			rec := api.Rec{V: v}
			for _, s := range y.Slots {
				rec.S = append(rec.S, some(r, s.Types))
			}
			rs = append(rs, rec)
		}
		each(x, rs)
	}
}

// some is a right value of one of some kinds.
func some(r *rand.Rand, types int) api.Value {
	for {
		if v := rightValues()[r.IntN(len(rightValues()))]; types>>v.Kind%2 == 1 {
			return v
		}
	}
}

// must is a call's record, valid and of that version.
func must(t *testing.T, x api.Template, v int, r api.Rec, e api.Errno) api.Rec {
	t.Helper()
	if e != api.OK || r.V != v || !record.Valid(x, r) {
		t.Fatalf("%+v to %d: %s, %d", x, v, line(r), e)
	}
	return r
}

// TestP123Up: P12.3, of many templates: what is lifted is valid, Down of Up is the record, Up of Up is Up; so it is step by step.
func TestP123Up(t *testing.T) {
	came := 0
	walks(60, func(x api.Template, rs []api.Rec) {
		for _, r := range rs {
			step := r
			for v := r.V; v <= len(rs); v++ {
				got, e := cast.Up(x, r, v)
				up := must(t, x, v, got, e)
				got, e = cast.Down(x, up, r.V)
				is(t, "Down of Up", got, e, r, api.OK)
				is(t, "step by step", step, api.OK, up, api.OK)
				for w := v; w <= len(rs); w++ {
					got, e = cast.Up(x, up, w)
					want, f := cast.Up(x, r, w)
					is(t, "Up of Up", got, e, must(t, x, w, want, f), api.OK)
				}
				came += len(up.S) - len(r.S)
				if v < len(rs) {
					got, e = cast.Lift(x, step)
					step = must(t, x, v+1, got, e)
				}
			}
			got, e := cast.Newest(x, r)
			is(t, "Newest", got, e, step, api.OK)
		}
	})
	if came < 500 {
		t.Error(came)
	}
}

// TestP123Down: P12.3, of many templates: what is lowered is valid; just slots that came later are dropped, and values that don't fit yet turned; so it is step by step.
func TestP123Down(t *testing.T) {
	gone, turns := 0, 0
	walks(150, func(x api.Template, rs []api.Rec) {
		for _, r := range rs {
			step := r
			for v := r.V; v >= 1; v-- {
				got, e := cast.Down(x, r, v)
				down := must(t, x, v, got, e)
				is(t, "step by step", step, api.OK, down, api.OK)
				y, _ := schema.At(x, v)
				for i, s := range y.Slots {
					want := r.S[i]
					if !schema.Fits(s, want) {
						want = s.Def
						turns++
					}
					if !value.Same(down.S[i], want) {
						t.Fatalf("%+v: %s to %d: %s, slot %d", x, line(r), v, line(down), i)
					}
				}
				gone += len(r.S) - len(down.S)
				if v > 1 {
					got, e = cast.Lower(x, step)
					step = must(t, x, v-1, got, e)
				}
			}
		}
	})
	if gone < 500 || turns < 500 {
		t.Error(gone, turns)
	}
}

// roomy is a list with spare room, written full.
func roomy[T any](fill T, l ...T) []T {
	l = append(make([]T, 0, len(l)+3), l...)
	for i := range l[len(l):cap(l)] {
		l[len(l):cap(l)][i] = fill
	}
	return l
}

// deep is a list of lists, each with spare room.
func deep(n int64) api.Value { return list(roomy(num(9), num(n), list(roomy(num(9), num(n))...))...) }

// deepTmpl is a template of four versions, of which all lists have spare room; the first has two slots, the last two four.
func deepTmpl() api.Template {
	slot := func(name string, n int64) api.Slot { return api.Slot{Name: name, Types: li, Def: deep(n)} }
	add := func(name string, n int64) api.Step { return api.Step{Kind: api.Add, Slot: slot(name, n)} }
	return api.Template{
		Name:  "t",
		Slots: roomy(slot("fill", 0), slot("a", 1), slot("b", 2)),
		Steps: roomy(add("fill", 0), add("c", 3), add("d", 4), api.Step{Kind: api.Widen, Slot: api.Slot{Types: in}}),
	}
}

// deepRec is a record of deepTmpl's version, of which all lists have spare room.
func deepRec(v int) api.Rec {
	l := []api.Value{deep(11), deep(12), deep(13), deep(14)}
	return api.Rec{V: v, S: roomy(num(9), l[:min(v+1, len(l))]...)}
}

// whole tells anything, and all that lists in it have spare room for.
func whole(x reflect.Value) string {
	s := ""
	switch x.Kind() {
	case reflect.Slice:
		s = fmt.Sprintf("%d of %d: ", x.Len(), x.Cap())
		for i := range x.Cap() {
			s += whole(x.Slice(0, x.Cap()).Index(i)) + ","
		}
	case reflect.Struct:
		for i := range x.NumField() {
			s += whole(x.Field(i)) + ";"
		}
	default:
		s = fmt.Sprint(x)
	}
	return "(" + s + ")"
}

// wipe writes over values, and all that they have spare room for.
func wipe(l []api.Value) {
	for i, v := range l[:cap(l)] {
		wipe(v.L)
		l[:cap(l)][i] = str("wiped")
	}
}

// TestP12Kept: P12.1 and P12.2, what is handed in stays as it is, its spare room too.
func TestP12Kept(t *testing.T) {
	for v := 1; v <= 4; v++ {
		x, r := deepTmpl(), deepRec(v)
		tell := func() string { return whole(reflect.ValueOf(x)) + whole(reflect.ValueOf(r)) }
		want := tell()
		cast.Lift(x, r)
		cast.Lower(x, r)
		cast.Newest(x, r)
		for w := range 6 {
			cast.Up(x, r, w)
			cast.Down(x, r, w)
		}
		if got := tell(); got != want {
			t.Errorf("version %d: %s, not %s", v, got, want)
		}
	}
}

// TestP12Turned: P12.1 and P12.2, values that don't fit are turned in the answer, not in what was handed in.
func TestP12Turned(t *testing.T) {
	r := api.Rec{V: last, S: wides()}
	want := line(r)
	cast.Lower(tmpl(), r)
	cast.Down(tmpl(), r, 1)
	if line(r) != want {
		t.Errorf("%s, not %s", line(r), want)
	}
}

// TestP12New: P12.1 and P12.2, an answer is new memory, its spare room too, and shares none with what was handed in or another answer.
func TestP12New(t *testing.T) {
	x, r := deepTmpl(), deepRec(2)
	same := api.Rec{V: 2, S: slices.Repeat([]api.Value{deep(11)}, 3)}
	tell := func() string {
		return whole(reflect.ValueOf(x)) + whole(reflect.ValueOf(r)) + whole(reflect.ValueOf(same))
	}
	want := tell()
	for i, answer := range []func() (api.Rec, api.Errno){
		func() (api.Rec, api.Errno) { return cast.Lift(x, r) },
		func() (api.Rec, api.Errno) { return cast.Lower(x, r) },
		func() (api.Rec, api.Errno) { return cast.Newest(x, r) },
		func() (api.Rec, api.Errno) { return cast.Up(x, r, 2) },
		func() (api.Rec, api.Errno) { return cast.Up(x, r, 4) },
		func() (api.Rec, api.Errno) { return cast.Down(x, r, 2) },
		func() (api.Rec, api.Errno) { return cast.Down(x, r, 1) },
		func() (api.Rec, api.Errno) { return cast.Lift(x, same) },
		func() (api.Rec, api.Errno) { return cast.Down(x, same, 1) },
	} {
		first, _ := answer()
		second, _ := answer()
		told := line(second)
		if len(first.S) < 2 || line(first) != told {
			t.Fatalf("%d: %s, %s", i, line(first), told)
		}
		wipe(first.S)
		third, _ := answer()
		if tell() != want || line(second) != told || line(third) != told {
			t.Errorf("%d: an answer that was written changed others, or what was handed in", i)
		}
		for j := range third.S {
			wipe(third.S[j].L)
			for k := j + 1; k < len(third.S); k++ {
				if value.Text(third.S[k]) != value.Text(second.S[k]) {
					t.Errorf("%d: values %d and %d of an answer share memory", i, j, k)
				}
			}
		}
	}
	up, _ := cast.Up(x, r, 4)
	told := line(up)
	wipe(r.S)
	wipe(x.Slots[0].Def.L)
	wipe(x.Steps[1].Slot.Def.L)
	if line(up) != told {
		t.Error("it was kept")
	}
}
