package schema_test

import (
	"fmt"
	"math"
	"math/rand/v2"
	"reflect"
	"slices"
	"strings"
	"testing"

	"douane/api"
	"douane/schema"
	"douane/value"
)

// The bits of kinds.
const (
	null = 1 << api.Null
	boo  = 1 << api.Bool
	in   = 1 << api.Int
	sy   = 1 << api.Sym
	st   = 1 << api.Str
	li   = 1 << api.List
	any6 = 63
)

func num(n int64) api.Value         { return api.Value{Kind: api.Int, N: n} }
func str(s string) api.Value        { return api.Value{Kind: api.Str, S: s} }
func sym(s string) api.Value        { return api.Value{Kind: api.Sym, S: s} }
func list(l ...api.Value) api.Value { return api.Value{Kind: api.List, L: l} }

// rightValues are right values of all kinds, some at the limits.
func rightValues() []api.Value {
	long := strings.Repeat("x", api.MaxStr)
	return []api.Value{{}, {Kind: api.Bool}, {Kind: api.Bool, N: 1}, num(0), num(1), num(math.MinInt64), num(math.MaxInt64), sym("a"), sym("A-9_"), sym(strings.Repeat("z", api.MaxName)), str(""), str("a"), str("1"), str(long), list(), list(num(1), str("a")), list(api.Value{}), list(list(list(list()))), list(slices.Repeat([]api.Value{num(1)}, api.MaxItems)...)}
}

// wrongValues are values that aren't right.
func wrongValues() []api.Value {
	row := list(slices.Repeat([]api.Value{num(1)}, api.MaxItems)...)
	return []api.Value{{N: 1}, {S: "a"}, {L: []api.Value{{}}}, {Kind: api.Bool, N: 2}, {Kind: api.Bool, N: -1}, {Kind: api.Int, S: "1"}, {Kind: api.Int, L: []api.Value{{}}}, sym(""), sym("1"), sym("a b"), sym(strings.Repeat("z", api.MaxName+1)), {Kind: api.Sym, S: "a", N: 1}, str("\xff"), str(strings.Repeat("x", api.MaxStr+1)), {Kind: api.Str, N: 1}, {Kind: api.List, N: 1}, {Kind: api.List, S: "a"}, list(append(slices.Clone(row.L), num(1))...), list(list(list(list(list())))), list(row, row, row, row, row), list(sym("")), {Kind: 6}, {Kind: -1}, {Kind: 64}, {Kind: math.MaxInt}, {Kind: math.MinInt}}
}

// takes is a slot of a name that takes some kinds, its Def the least value of the least of them.
func takes(name string, types int) api.Slot {
	for i, v := range []api.Value{{}, {Kind: api.Bool}, num(0), sym("s"), str(""), list()} {
		if types&(1<<i) != 0 {
			return api.Slot{Name: name, Types: types, Def: v}
		}
	}
	return api.Slot{Name: name, Types: types}
}

// must is a slot that a record must tell.
func must(s api.Slot) api.Slot {
	s.Req = true
	return s
}

// def is a slot with another Def.
func def(s api.Slot, v api.Value) api.Slot {
	s.Def = v
	return s
}

// Steps of each kind.
func add(s api.Slot) api.Step   { return api.Step{Kind: api.Add, Slot: s} }
func lose(col int) api.Step     { return api.Step{Kind: api.Lose, Col: col} }
func reorder(l ...int) api.Step { return api.Step{Kind: api.Reorder, Order: l} }
func rename(col int, name string) api.Step {
	return api.Step{Kind: api.Rename, Col: col, Slot: api.Slot{Name: name}}
}
func widen(col int, types int) api.Step {
	return api.Step{Kind: api.Widen, Col: col, Slot: api.Slot{Types: types}}
}
func of(s []api.Slot, l ...api.Step) api.Template { return api.Template{Name: "t", Slots: s, Steps: l} }

// ints are slots of Int alone, by their names.
func ints(names ...string) []api.Slot {
	var l []api.Slot
	for _, s := range names {
		l = append(l, takes(s, in))
	}
	return l
}

// isRight says whether Right, Last and At tell that a template is right, and of how many versions; they must not tell different things.
func isRight(t *testing.T, x api.Template) bool {
	t.Helper()
	right, want := schema.Right(x), 0
	if right {
		want = len(x.Steps) + 1
	}
	if n := schema.Last(x); n != want {
		t.Errorf("%+v: Right %t, Last %d", x, right, n)
	}
	for _, v := range []int{math.MinInt, -1, 0, 1, 2, len(x.Steps), len(x.Steps) + 1, len(x.Steps) + 2, 256, math.MaxInt} {
		y, ok := schema.At(x, v)
		if there := v >= 1 && v <= want; ok != there || there != (len(y.Slots) > 0) || there != (len(y.Cols) > 0) {
			t.Errorf("%+v: Right %t, At %d: %+v %t", x, right, v, y, ok)
		}
	}
	return right
}

// line is a version as a text: each slot by its number, then the columns.
func line(x schema.Version) string {
	s := ""
	for _, y := range x.Slots {
		s += fmt.Sprintf("%s/%d/%t/%s ", y.Name, y.Types, y.Req, value.Text(y.Def))
	}
	return s + strings.Trim(fmt.Sprint(x.Cols), "[]")
}

// at is what At answers, as a text.
func at(t *testing.T, x api.Template, v int) string {
	t.Helper()
	y, ok := schema.At(x, v)
	if !ok {
		t.Errorf("%+v has no version %d", x, v)
	}
	return line(y)
}

// TestP101Fits: P10.1, right and wrong values, and all kinds' bits, and others.
func TestP101Fits(t *testing.T) {
	odd := []int{64, 64 | in, 128, 1 << 20, 1<<20 | st, math.MaxInt, math.MinInt, -1, -2, -64, math.MinInt | li, ^in}
	for types := range 64 {
		odd = append(odd, types)
	}
	for _, types := range odd {
		for _, s := range []api.Slot{{Types: types}, must(takes("a", types)), {Name: "1", Types: types, Def: sym("")}} {
			for _, v := range rightValues() {
				if want := uint64(types)>>v.Kind%2 == 1; schema.Fits(s, v) != want {
					t.Errorf("Fits of types %d, %+v: not %t", types, v, want)
				}
			}
			for _, v := range wrongValues() {
				if schema.Fits(s, v) {
					t.Errorf("Fits of types %d, %+v", types, v)
				}
			}
		}
	}
}

// TestP101FitsWritten: P10.1, which value fits which slot, written out.
func TestP101FitsWritten(t *testing.T) {
	for types, v := range map[int]api.Value{1: {}, 2: {Kind: api.Bool, N: 1}, 4: num(-1), 8: sym("a"), 16: str("a"), 32: list()} {
		for have := range 64 {
			if want := have&types != 0; schema.Fits(api.Slot{Types: have}, v) != want {
				t.Errorf("types %d, %+v: not %t", have, v, want)
			}
		}
	}
}

// TestP101Slots: P10.1, which slots may be a template's, and an Add's: names, types, Defs.
func TestP101Slots(t *testing.T) {
	ask := func(s api.Slot, want bool) {
		t.Helper()
		last := takes("last", any6)
		for i, x := range []api.Template{of([]api.Slot{s}), of([]api.Slot{s, last}), of([]api.Slot{last, s}), of([]api.Slot{last}, add(s)), of([]api.Slot{last}, add(takes("m", in)), add(s), lose(0))} {
			if got := isRight(t, x); got != (want && (i < 3 || !s.Req)) {
				t.Errorf("%d: %+v: %t", i, s, got)
			}
		}
	}
	for name, want := range map[string]bool{"a": true, "Z": true, "a-b_9": true, "aa": true, strings.Repeat("a", api.MaxName): true, strings.Repeat("a", api.MaxName+1): false, "": false, "1": false, "-": false, "_a": false, "a b": false, "a.": false, "\u00e9": false, "a\x00": false, "'a": false, "@": false, "[": false, "`": false, "{": false} {
		ask(takes(name, in), want)
		ask(must(takes(name, st)), want)
	}
	for types := -70; types <= 130; types++ {
		want := types >= 1 && types <= 63
		ask(takes("a", types), want)
		ask(must(takes("a", types)), want)
	}
	for _, types := range []int{math.MinInt, math.MaxInt, 1<<32 | in, 256 | in} {
		ask(takes("a", types), false)
	}
	for types := range 64 {
		for _, v := range rightValues() {
			ask(def(takes("a", types), v), types>>v.Kind%2 == 1)
		}
		for _, v := range wrongValues() {
			ask(def(takes("a", types), v), false)
			ask(must(def(takes("a", types), v)), false)
		}
	}
}

// TestP101Templates: P10.1, a template's name, how many slots and steps, names twice.
func TestP101Templates(t *testing.T) {
	for name, want := range map[string]bool{"t": true, "T-1": true, strings.Repeat("t", api.MaxName): true, strings.Repeat("t", api.MaxName+1): false, "": false, "1": false, "t ": false, "\xff": false} {
		x := of(ints("a"), add(takes("b", st)))
		x.Name = name
		if isRight(t, x) != want {
			t.Errorf("%q: not %t", name, want)
		}
	}
	names := []string{"a", "b", "c", "d", "e", "f", "g", "h", "i"}
	for n := range 10 {
		if got := isRight(t, of(ints(names[:n]...))); got != (n >= 1 && n <= 8) {
			t.Errorf("%d slots: %t", n, got)
		}
		steps := slices.Repeat([]api.Step{reorder(1, 0)}, n)
		if got := isRight(t, of(ints("a", "b"), steps...)); got != (n <= 8) {
			t.Errorf("%d steps: %t", n, got)
		}
	}
	if isRight(t, of(ints("a", "b"), slices.Repeat([]api.Step{reorder(1, 0)}, 300)...)) || isRight(t, of(slices.Repeat(ints("a"), 300))) || isRight(t, api.Template{}) {
		t.Error("too many")
	}
	for i := range 8 {
		for j := range i {
			l := ints(names[:8]...)
			l[i].Name = l[j].Name
			l[i].Types = any6
			if isRight(t, of(l)) || isRight(t, of(l, lose(i))) || isRight(t, of(l, rename(j, "z"))) {
				t.Errorf("the names %d and %d are the same", i, j)
			}
		}
	}
	if !isRight(t, of(ints("a", "A", "aa", "a-"))) || !isRight(t, of(ints("t"))) {
		t.Error("names that aren't the same")
	}
	if !isRight(t, api.Template{Name: "t", Slots: ints("a"), Steps: []api.Step{}}) {
		t.Error("no steps, not nil")
	}
}

// TestP101Full: P10.1, an Add where there are just so many columns, or fewer, though there were more slots.
func TestP101Full(t *testing.T) {
	eight := ints("a", "b", "c", "d", "e", "f", "g", "h")
	x := add(takes("x", st))
	if isRight(t, of(eight, x)) || isRight(t, of(eight[:7], x, add(takes("y", st)))) || !isRight(t, of(eight[:7], x)) {
		t.Error("eight columns")
	}
	if !isRight(t, of(eight, lose(3), x)) || isRight(t, of(eight, lose(3), x, add(takes("y", st)))) || isRight(t, of(eight, rename(0, "z"), x)) {
		t.Error("eight columns, one lost")
	}
	l := []api.Step{lose(7), x, lose(7), x, lose(0), add(takes("a", in)), lose(0), add(takes("b", in))}
	if !isRight(t, of(eight, l...)) {
		t.Error("eight slots, and four more")
	}
	if y, _ := schema.At(of(eight, l...), 9); len(y.Slots) != 12 || !slices.Equal(y.Cols, []int{2, 3, 4, 5, 6, 9, 10, 11}) {
		t.Error(y)
	}
	var up []api.Step
	for _, s := range ints("b", "c", "d", "e", "f", "g", "h", "i") {
		up = append(up, add(s))
	}
	if !isRight(t, of(ints("a"), up[:7]...)) || isRight(t, of(ints("a"), up...)) {
		t.Error("one slot, and eight more")
	}
}

// TestP101Steps: P10.1, which steps can be done, written out: of a, Int, and b, Int or Str.
func TestP101Steps(t *testing.T) {
	slots := []api.Slot{takes("a", in), must(takes("b", in|st))}
	for i, s := range []api.Step{
		add(takes("c", in)), add(takes("A", any6)), add(def(takes("c", li), list(num(1), list()))),
		lose(0), lose(1),
		rename(0, "c"), rename(1, "c"), rename(0, "A"), rename(1, strings.Repeat("n", api.MaxName)),
		widen(0, null), widen(0, st), widen(0, any6), widen(0, in|st), widen(1, null|in|st), widen(1, li), widen(1, any6),
		reorder(0, 1), reorder(1, 0),
	} {
		if !isRight(t, of(slots, s)) {
			t.Errorf("%d: %+v", i, s)
		}
	}
	for i, s := range []api.Step{
		add(takes("a", in)), add(takes("b", st)), add(must(takes("c", in))), add(takes("", in)), add(takes("1", in)), add(takes("c", 0)), add(takes("c", 64)), add(def(takes("c", in), str(""))), add(def(takes("c", sy), sym(""))),
		lose(2), lose(-1), lose(math.MaxInt), lose(math.MinInt),
		rename(0, "a"), rename(1, "b"), rename(0, "b"), rename(1, "a"), rename(0, ""), rename(0, "1"), rename(0, "c "), rename(0, strings.Repeat("n", api.MaxName+1)), rename(2, "c"), rename(-1, "c"), rename(math.MaxInt, "c"), rename(math.MinInt, "c"),
		widen(0, in), widen(1, in), widen(0, 0), widen(0, 64), widen(0, 64|st), widen(0, -1), widen(0, math.MaxInt), widen(0, math.MinInt), widen(2, st), widen(-1, st), widen(math.MaxInt, st), widen(math.MinInt, st),
		reorder(), reorder(0), reorder(1), reorder(0, 0), reorder(1, 1), reorder(0, 2), reorder(2, 1), reorder(-1, 0), reorder(0, -1), reorder(0, 1, 0), reorder(1, 0, 2), reorder(math.MinInt, math.MaxInt),
		{}, {Kind: 6}, {Kind: 7}, {Kind: -1}, {Kind: math.MaxInt}, {Kind: math.MinInt}, {Kind: 256 + api.Lose}, {Kind: 0, Col: 1}, {Kind: 6, Slot: takes("c", in)},
	} {
		if isRight(t, of(slots, s)) || isRight(t, of(slots, reorder(1, 0), s)) || isRight(t, of(slots, s, reorder(1, 0))) || isRight(t, of(slots, s, s)) {
			t.Errorf("%d: %+v", i, s)
		}
	}
	for _, types := range []int{in, st, in | st} {
		if isRight(t, of(slots, widen(1, types))) || isRight(t, of(slots, reorder(1, 0), widen(0, types))) || isRight(t, of(slots, widen(0, types|null), widen(0, types))) {
			t.Errorf("types %d, that are taken already", types)
		}
	}
	if isRight(t, of(ints("a"), lose(0))) || isRight(t, of(slots, lose(0), lose(0))) || isRight(t, of(slots, lose(0), lose(1))) {
		t.Error("the only column")
	}
	if !isRight(t, of(ints("a"), reorder(0), rename(0, "b"), rename(0, "a"), widen(0, st), add(takes("b", in)), lose(0))) {
		t.Error("one column")
	}
}

// TestP101Untold: P10.1, steps of each kind, with each thing that one of its kind doesn't tell.
func TestP101Untold(t *testing.T) {
	type way struct {
		name string
		put  func(s *api.Step)
	}
	ways := []way{
		{"Col", func(s *api.Step) { s.Col = 1 }},
		{"Order", func(s *api.Step) { s.Order = []int{0} }},
		{"Name", func(s *api.Step) { s.Slot.Name = "n" }},
		{"Types", func(s *api.Step) { s.Slot.Types = any6 }},
		{"Req", func(s *api.Step) { s.Slot.Req = true }},
		{"Def", func(s *api.Step) { s.Slot.Def.Kind = api.Int }},
	}
	told := map[int]string{api.Add: "Name Types Def", api.Lose: "Col", api.Rename: "Col Name", api.Widen: "Col Types", api.Reorder: "Order"}
	slots := []api.Slot{takes("a", in), takes("b", in)}
	steps := []api.Step{add(takes("c", in)), lose(0), rename(0, "c"), widen(0, st), reorder(1, 0)}
	for _, s := range steps {
		if !isRight(t, of(slots, s)) {
			t.Errorf("%+v", s)
		}
		for _, w := range ways {
			x := s
			w.put(&x)
			if isRight(t, of(slots, x)) && !strings.Contains(told[s.Kind], w.name) {
				t.Errorf("%+v: it tells %s", x, w.name)
			}
		}
	}
	for _, s := range steps[1:] {
		for _, v := range append(rightValues()[1:], wrongValues()...) {
			s.Slot.Def = v
			if isRight(t, of(slots, s)) {
				t.Errorf("%+v", s)
			}
		}
		s.Slot.Def = api.Value{L: []api.Value{}}
		if s.Kind != api.Reorder {
			s.Order = []int{}
		}
		if !isRight(t, of(slots, s)) {
			t.Errorf("%+v: empty, not nil", s)
		}
	}
	for _, col := range []int{-1, 1, 2, math.MaxInt, math.MinInt} {
		for _, s := range []api.Step{steps[0], steps[4]} {
			s.Col = col
			if isRight(t, of(slots, s)) {
				t.Errorf("%+v", s)
			}
		}
	}
	for _, n := range []int{-1, 1, 64, math.MaxInt, math.MinInt} {
		for _, s := range []api.Step{steps[1], steps[2], steps[4]} {
			s.Slot.Types = n
			if isRight(t, of(slots, s)) {
				t.Errorf("%+v", s)
			}
		}
	}
}

// TestP101Place: P10.1, a wrong step at each place of the steps.
func TestP101Place(t *testing.T) {
	good := []api.Step{add(takes("c", in)), lose(0), rename(0, "z"), widen(1, st), reorder(1, 0), add(takes("a", sy)), lose(1), rename(1, "b")}
	if !isRight(t, of(ints("a", "b"), good...)) {
		t.Fatal("good")
	}
	for i := range good {
		for _, s := range []api.Step{{}, {Kind: 6}, lose(8), add(takes("", in)), rename(0, "1"), widen(0, 64), reorder(0, 0)} {
			l := slices.Clone(good)
			l[i] = s
			if isRight(t, of(ints("a", "b"), l...)) {
				t.Errorf("%d: %+v", i, s)
			}
		}
	}
}

// TestP102At: P10.2, versions, written out.
func TestP102At(t *testing.T) {
	x := of([]api.Slot{takes("a", in), must(def(takes("b", in|st), str("x"))), takes("c", null)},
		reorder(2, 0, 1), lose(1), add(def(takes("a", sy|li), list(num(1), sym("s")))), rename(0, "d"), widen(1, null|in), rename(2, "c"), reorder(1, 2, 0), lose(0))
	for i, want := range []string{
		`a/4/false/0 b/20/true/"x" c/1/false/null 0 1 2`,
		`a/4/false/0 b/20/true/"x" c/1/false/null 2 0 1`,
		`a/4/false/0 b/20/true/"x" c/1/false/null 2 1`,
		`a/4/false/0 b/20/true/"x" c/1/false/null a/40/false/[1 's] 2 1 3`,
		`a/4/false/0 b/20/true/"x" d/1/false/null a/40/false/[1 's] 2 1 3`,
		`a/4/false/0 b/21/true/"x" d/1/false/null a/40/false/[1 's] 2 1 3`,
		`a/4/false/0 b/21/true/"x" d/1/false/null c/40/false/[1 's] 2 1 3`,
		`a/4/false/0 b/21/true/"x" d/1/false/null c/40/false/[1 's] 1 3 2`,
		`a/4/false/0 b/21/true/"x" d/1/false/null c/40/false/[1 's] 3 2`,
	} {
		if got := at(t, x, i+1); got != want {
			t.Errorf("version %d: %s, not %s", i+1, got, want)
		}
	}
	isRight(t, x)
	if got := at(t, of(ints("a", "b"), lose(0)), 2); got != "a/4/false/0 b/4/false/0 1" {
		t.Error(got)
	}
	if got := at(t, of(ints("a", "b"), lose(0), add(takes("c", st))), 3); got != `a/4/false/0 b/4/false/0 c/16/false/"" 1 2` {
		t.Error(got)
	}
}

// TestP102Order: P10.2, all orders of up to five columns, twice.
func TestP102Order(t *testing.T) {
	names := []string{"a", "b", "c", "d", "e"}
	var orders func(n int) [][]int
	orders = func(n int) [][]int {
		if n == 0 {
			return [][]int{{}}
		}
		var l [][]int
		for _, o := range orders(n - 1) {
			for i := range n {
				l = append(l, slices.Insert(slices.Clone(o), i, n-1))
			}
		}
		return l
	}
	for n := 1; n <= 5; n++ {
		last := []int{}
		for _, o := range orders(n) {
			x := of(ints(names[:n]...), reorder(o...), reorder(o...))
			var twice []int
			for _, i := range o {
				twice = append(twice, o[i])
			}
			two, _ := schema.At(x, 2)
			three, _ := schema.At(x, 3)
			if !isRight(t, x) || !slices.Equal(two.Cols, o) || !slices.Equal(three.Cols, twice) {
				t.Errorf("%d: %d, %d", o, two.Cols, three.Cols)
			}
			last = o
		}
		for i := range last {
			for v := -1; v <= n; v++ {
				o := slices.Clone(last)
				o[i] = v
				if v != last[i] && isRight(t, of(ints(names[:n]...), reorder(o...))) {
					t.Error(o)
				}
			}
		}
	}
}

// TestP102Col: P10.2, columns by their names, and what is no column.
func TestP102Col(t *testing.T) {
	x := of(ints("a", "b", "c"), reorder(2, 1, 0), lose(1), add(takes("b", st)), rename(0, "z"), lose(1))
	for v, want := range map[int]map[string]int{
		1: {"a": 0, "b": 1, "c": 2, "z": -1, "": -1, "A": -1, "aa": -1},
		2: {"a": 0, "b": 1, "c": 2, "z": -1},
		3: {"a": 0, "b": -1, "c": 2, "z": -1},
		4: {"a": 0, "b": 3, "c": 2, "z": -1},
		5: {"a": 0, "b": 3, "c": -1, "z": 2},
		6: {"a": -1, "b": 3, "c": -1, "z": 2},
	} {
		y, _ := schema.At(x, v)
		for name, n := range want {
			if got := schema.Col(y, name); got != n {
				t.Errorf("version %d, %q: %d, not %d", v, name, got, n)
			}
		}
	}
	l := ints("a", "b", "a")
	for _, c := range []struct {
		x    schema.Version
		name string
		want int
	}{
		{schema.Version{}, "", -1}, {schema.Version{}, "a", -1}, {schema.Version{Slots: l}, "a", -1}, {schema.Version{Cols: []int{0, 1}}, "", -1},
		{schema.Version{Slots: l, Cols: []int{2, 0}}, "a", 2}, {schema.Version{Slots: l, Cols: []int{1}}, "a", -1}, {schema.Version{Slots: l, Cols: []int{0, 1, 2}}, "b", 1},
		{schema.Version{Slots: l, Cols: []int{-1, 3, math.MaxInt, math.MinInt, 1}}, "b", 1}, {schema.Version{Slots: l, Cols: []int{-1, 3}}, "b", -1},
		{schema.Version{Slots: []api.Slot{{}}, Cols: []int{0}}, "", 0}, {schema.Version{Slots: []api.Slot{{Name: "\xff"}}, Cols: []int{0}}, "\xff", 0},
	} {
		if got := schema.Col(c.x, c.name); got != c.want {
			t.Errorf("%+v, %q: %d, not %d", c.x, c.name, got, c.want)
		}
	}
}

// column is one of the model's slots: a column, or what is lost.
type column struct {
	number int
	slot   api.Slot
}

// model is a template's versions by the chapter's words: its slots, and the columns among them.
type model struct{ slots, cols []*column }

// begin is the model of version 1.
func begin(l []api.Slot) *model {
	m := &model{}
	for _, s := range l {
		m.come(s)
	}
	return m
}

func (m *model) come(s api.Slot) {
	c := &column{len(m.slots), s}
	m.slots, m.cols = append(m.slots, c), append(m.cols, c)
}

// taken says whether a name is a column's.
func (m *model) taken(name string) bool {
	return slices.ContainsFunc(m.cols, func(c *column) bool { return c.slot.Name == name })
}

// do does a step, and says whether it can be done. (Of slots of an Add the steps here have only right ones, but for Req and their names.)
func (m *model) do(s api.Step) bool {
	there := s.Col >= 0 && s.Col < len(m.cols)
	rest := s
	rest.Kind = 0
	can := false
	switch s.Kind {
	case api.Add:
		rest.Slot = api.Slot{}
		if can = len(m.cols) < 8 && !s.Slot.Req && !m.taken(s.Slot.Name); can {
			m.come(s.Slot)
		}
	case api.Lose:
		rest.Col = 0
		if can = there && len(m.cols) > 1; can {
			m.cols = slices.DeleteFunc(slices.Clone(m.cols), func(c *column) bool { return c == m.cols[s.Col] })
		}
	case api.Rename:
		rest.Col, rest.Slot.Name = 0, ""
		if can = there && value.IsName(s.Slot.Name) && !m.taken(s.Slot.Name); can {
			m.cols[s.Col].slot.Name = s.Slot.Name
		}
	case api.Widen:
		rest.Col, rest.Slot.Types = 0, 0
		if can = there && s.Slot.Types > 0 && s.Slot.Types < 64 && m.cols[s.Col].slot.Types|s.Slot.Types != m.cols[s.Col].slot.Types; can {
			m.cols[s.Col].slot.Types |= s.Slot.Types
		}
	case api.Reorder:
		rest.Order = nil
		sorted := slices.Sorted(slices.Values(s.Order))
		can = len(sorted) == len(m.cols)
		for i, n := range sorted {
			can = can && i == n
		}
		if can {
			var l []*column
			for _, n := range s.Order {
				l = append(l, m.cols[n])
			}
			m.cols = l
		}
	}
	return can && reflect.ValueOf(rest).IsZero()
}

// line is the model's version, as line tells it.
func (m *model) line() string {
	var x schema.Version
	for _, c := range m.slots {
		x.Slots = append(x.Slots, c.slot)
	}
	for _, c := range m.cols {
		x.Cols = append(x.Cols, c.number)
	}
	return line(x)
}

// modelled is a template's versions by the model; none, if it can't be.
func modelled(x api.Template) []string {
	m := begin(x.Slots)
	l := []string{m.line()}
	for _, s := range x.Steps {
		if !m.do(s) {
			return nil
		}
		l = append(l, m.line())
	}
	return l
}

// someSteps are steps of which rows are tried.
func someSteps() []api.Step {
	return []api.Step{
		add(takes("c", in)), add(takes("a", st|li)), add(def(takes("b", any6), list(sym("x")))), add(must(takes("d", in))),
		lose(0), lose(1), lose(2), lose(-1),
		rename(0, "c"), rename(1, "a"), rename(0, "b"), rename(2, "z"), rename(0, "9"),
		widen(0, in), widen(0, st), widen(1, any6), widen(2, null|boo), widen(1, -4),
		reorder(0), reorder(1, 0), reorder(0, 1), reorder(2, 0, 1), reorder(0, 0), reorder(1, 2, 0, 3),
		{}, {Kind: 6, Col: 1}, {Kind: api.Lose, Col: 0, Order: []int{0}}, {Kind: api.Widen, Slot: takes("", li)},
	}
}

// against holds a template against the model, and says whether it is right.
func against(t *testing.T, x api.Template) bool {
	t.Helper()
	want := modelled(x)
	if schema.Right(x) != (want != nil) || schema.Last(x) != len(want) {
		t.Fatalf("%+v: Right %t, Last %d, not %d", x, schema.Right(x), schema.Last(x), len(want))
	}
	for i, s := range want {
		if y, ok := schema.At(x, i+1); !ok || line(y) != s {
			t.Fatalf("%+v: version %d: %s, not %s", x, i+1, line(y), s)
		}
	}
	if _, ok := schema.At(x, len(want)+1); ok {
		t.Fatalf("%+v has a version %d", x, len(want)+1)
	}
	return want != nil
}

// TestP102All: P10.1, P10.2, all rows of up to four steps, against the model.
func TestP102All(t *testing.T) {
	slots := []api.Slot{takes("a", in), must(takes("b", in|st))}
	rights, wrongs := 0, 0
	var on func(l []api.Step)
	on = func(l []api.Step) {
		if !against(t, of(slots, l...)) {
			wrongs++
			return
		}
		rights++
		for _, s := range someSteps() {
			if len(l) < 4 {
				on(append(slices.Clone(l), s))
			}
		}
	}
	on(nil)
	if rights < 1000 || wrongs < 1000 {
		t.Error(rights, wrongs)
	}
}

// walks hands on right templates of many steps, of up to eight columns.
func walks(t *testing.T, n int, each func(x api.Template)) {
	r := rand.New(rand.NewPCG(1, 2))
	names := []string{"a", "b", "c", "d", "e", "f", "g", "h", "i", "j"}
	pick := func() api.Slot { return takes(names[r.IntN(len(names))], 1+r.IntN(63)) }
	for range n {
		x := of(nil)
		for _, i := range r.Perm(len(names))[:1+r.IntN(8)] {
			s := takes(names[i], 1+r.IntN(63))
			s.Req = r.IntN(2) == 0
			x.Slots = append(x.Slots, s)
		}
		for tries := 0; tries < 40 && len(x.Steps) < api.MaxSteps; tries++ {
			col := r.IntN(9) - 1
			s := []api.Step{add(pick()), lose(col), rename(col, pick().Name), widen(col, pick().Types), reorder(r.Perm(1 + r.IntN(8))...)}[r.IntN(5)]
			y := x
			y.Steps = append(slices.Clone(x.Steps), s)
			if against(t, y) {
				x = y
			}
		}
		each(x)
	}
}

// TestP102Walks: P10.1, P10.2, long rows of steps, against the model.
func TestP102Walks(t *testing.T) {
	long, wide := 0, 0
	walks(t, 700, func(x api.Template) {
		if len(x.Steps) == api.MaxSteps {
			long++
		}
		if y, _ := schema.At(x, schema.Last(x)); len(y.Slots) > api.MaxSlots {
			wide++
		}
	})
	if long < 50 || wide < 50 {
		t.Error(long, wide)
	}
}

// follows tells what is wrong with a version behind another one; "", if nothing is.
func follows(a, b schema.Version) string {
	if len(b.Slots) != len(a.Slots) && len(b.Slots) != len(a.Slots)+1 {
		return "slots"
	}
	for i, s := range b.Slots {
		if !schema.Fits(s, s.Def) {
			return "a Def that doesn't fit"
		}
		if i < len(a.Slots) && (a.Slots[i].Types&^s.Types != 0 || !value.Same(a.Slots[i].Def, s.Def) || a.Slots[i].Req != s.Req) {
			return "a slot that takes less, or is another one"
		}
		if i == len(a.Slots) && (s.Req || !slices.Contains(b.Cols, i)) {
			return "a slot more that is no column"
		}
	}
	names := map[string]int{}
	for i, n := range b.Cols {
		if n < 0 || n >= len(b.Slots) || slices.Contains(b.Cols[:i], n) || n < len(a.Slots) && !slices.Contains(a.Cols, n) {
			return "a column that can't be"
		}
		name := b.Slots[n].Name
		if schema.Col(b, name) != n {
			return "Col"
		}
		names[name]++
	}
	if len(names) != len(b.Cols) || len(b.Cols) < 1 || len(b.Cols) > api.MaxSlots {
		return "columns' names"
	}
	return ""
}

// TestP103: P10.3, each version behind the one ahead of it.
func TestP103(t *testing.T) {
	asked := 0
	walks(t, 700, func(x api.Template) {
		a, _ := schema.At(x, 1)
		if len(a.Cols) != len(a.Slots) || len(a.Slots) != len(x.Slots) {
			t.Errorf("%+v: version 1: %+v", x, a)
		}
		for v := 1; v <= schema.Last(x); v++ {
			b, _ := schema.At(x, v)
			if why := follows(a, b); why != "" {
				t.Errorf("%+v: version %d: %s", x, v, why)
			}
			a = b
			asked++
		}
	})
	if asked < 3000 {
		t.Error(asked)
	}
}

// roomy is a list with spare room, written full.
func roomy[T any](l []T, fill T) []T {
	l = append(make([]T, 0, len(l)+3), l...)
	for i := range l[len(l):cap(l)] {
		l[len(l):cap(l)][i] = fill
	}
	return l
}

// TestP102Kept: P10.1, P10.2, what is handed in stays as it is, its spare room too.
func TestP102Kept(t *testing.T) {
	made := func() api.Template {
		fill := takes("fill", any6)
		l := roomy([]api.Value{num(1)}, num(9))
		x := of(roomy([]api.Slot{def(takes("a", li), list(l...)), takes("b", in)}, fill))
		x.Steps = roomy([]api.Step{{Kind: api.Reorder, Order: roomy([]int{1, 0}, 7)}, add(def(takes("c", li), list(l...))), widen(0, st), rename(1, "z"), lose(0), add(takes("d", in)), add(takes("e", in))}, add(fill))
		return x
	}
	all := func(x api.Template) string {
		s := ""
		for _, y := range x.Slots[:cap(x.Slots)] {
			s += fmt.Sprintf("%+v %+v;", y, y.Def.L[:cap(y.Def.L)])
		}
		for _, y := range x.Steps[:cap(x.Steps)] {
			s += fmt.Sprintf("%+v %+v %+v;", y, y.Slot.Def.L[:cap(y.Slot.Def.L)], y.Order[:cap(y.Order)])
		}
		return s
	}
	x, want := made(), all(made())
	isRight(t, x)
	for v := 1; v <= schema.Last(x); v++ {
		y, _ := schema.At(x, v)
		schema.Col(y, "a")
		schema.Fits(x.Slots[0], x.Slots[0].Def)
	}
	if schema.Last(x) != 8 || all(x) != want {
		t.Errorf("%s, not %s", all(x), want)
	}
}

// TestP102New: P10.2, a version is new memory, its spare room too, and shares none with the template or another one.
func TestP102New(t *testing.T) {
	x := of([]api.Slot{def(takes("a", li), list(num(1), list(num(2)))), takes("b", in)}, reorder(1, 0), add(def(takes("c", li), list(list(), num(3)))), widen(0, st), rename(1, "z"), lose(0))
	var told []string
	var kept []schema.Version
	for v := 1; v <= 6; v++ {
		y, _ := schema.At(x, v)
		told, kept = append(told, line(y)), append(kept, y)
	}
	before := fmt.Sprintf("%+v", x)
	for v := 1; v <= 6; v++ {
		y, _ := schema.At(x, v)
		for i := range y.Slots {
			l := y.Slots[i].Def.L
			for j := range l {
				clear(l[j].L[:cap(l[j].L)])
			}
			clear(l[:cap(l)])
		}
		clear(y.Slots[:cap(y.Slots)])
		clear(y.Cols[:cap(y.Cols)])
		for i, want := range told {
			if line(kept[i]) != want || at(t, x, i+1) != want || fmt.Sprintf("%+v", x) != before {
				t.Errorf("version %d was written: version %d is %s, or %s, not %s", v, i+1, line(kept[i]), at(t, x, i+1), want)
			}
		}
	}
	x.Slots[0], x.Steps[0].Order[0], x.Steps[1].Slot.Def.L[0] = api.Slot{}, 5, num(5)
	for i, want := range told {
		if line(kept[i]) != want {
			t.Errorf("the template was written: version %d is %s, not %s", i+1, line(kept[i]), want)
		}
	}
	if isRight(t, x) {
		t.Error("it was kept")
	}
}
