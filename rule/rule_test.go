package rule_test

import (
	"bytes"
	"encoding/binary"
	"fmt"
	"math"
	"math/rand/v2"
	"regexp"
	"slices"
	"strings"
	"testing"

	"douane/api"
	"douane/bin"
	"douane/rule"
	"douane/value"
)

// The bits of kinds.
const (
	null = 1 << api.Null
	boo  = 1 << api.Bool
	in   = 1 << api.Int
	sy   = 1 << api.Sym
	st   = 1 << api.Str
	li   = 1 << api.List
)

func num(n int64) api.Value         { return api.Value{Kind: api.Int, N: n} }
func str(s string) api.Value        { return api.Value{Kind: api.Str, S: s} }
func sym(s string) api.Value        { return api.Value{Kind: api.Sym, S: s} }
func truth(n int64) api.Value       { return api.Value{Kind: api.Bool, N: n} }
func list(l ...api.Value) api.Value { return api.Value{Kind: api.List, L: l} }

// nest is a value in so many lists.
func nest(n int, v api.Value) api.Value {
	for range n {
		v = list(v)
	}
	return v
}

// rightValues are right values of all kinds, the edges of each too.
func rightValues() []api.Value {
	return []api.Value{{}, truth(0), truth(1), num(0), num(-1), num(math.MaxInt64), num(math.MinInt64), sym("a"), sym(strings.Repeat("z", api.MaxName)), str(""), str("a"), str("\u20ac\x00"), str(strings.Repeat("x", api.MaxStr)), list(), list(num(1), list(str("")), api.Value{}), nest(4, num(1)), list(slices.Repeat([]api.Value{{}}, api.MaxItems)...)}
}

// wrongValues are values that aren't right, of all kinds, and of none.
func wrongValues() []api.Value {
	wide := list(slices.Repeat([]api.Value{list(num(1), num(2), num(3), num(4))}, 20)...)
	return []api.Value{{N: 1}, {S: "a"}, {L: []api.Value{{}}}, truth(2), truth(-1), {Kind: api.Int, S: "1"}, {Kind: api.Int, L: []api.Value{{}}}, sym(""), sym("1"), sym(strings.Repeat("z", api.MaxName+1)), str("\xff"), str(strings.Repeat("x", api.MaxStr+1)), {Kind: api.List, N: 1}, list(sym("")), {Kind: 6}, {Kind: -1}, {Kind: 256}, {Kind: math.MaxInt}, {Kind: math.MinInt}, nest(5, num(1)), nest(10, num(1)), wide, list(slices.Repeat([]api.Value{{}}, api.MaxItems+1)...)}
}

// reg is a registry: a template whose last version has more slots than its first one, and other kinds, and more than columns; one of a slot that takes all; one of two slots.
func reg() []api.Template {
	return []api.Template{
		{Name: "t", Slots: []api.Slot{{Name: "a", Types: in, Def: num(0)}, {Name: "b", Types: null | in}, {Name: "c", Types: st, Req: true, Def: str("")}}, Steps: []api.Step{
			{Kind: api.Add, Slot: api.Slot{Name: "d", Types: sy | li, Def: sym("x")}},
			{Kind: api.Lose, Col: 0},
			{Kind: api.Rename, Col: 0, Slot: api.Slot{Name: "e"}},
			{Kind: api.Widen, Col: 0, Slot: api.Slot{Types: st}},
			{Kind: api.Reorder, Order: []int{2, 1, 0}},
		}},
		{Name: "u", Slots: []api.Slot{{Name: "c", Types: 63}}},
		{Name: "v", Slots: []api.Slot{{Name: "p", Types: boo, Def: truth(1)}, {Name: "q", Types: li | null}}},
	}
}

// kinds are what the slots of reg's templates take at their last versions.
func kinds() [][]int {
	return [][]int{{in, null | in | st, st, sy | li}, {63}, {boo, li | null}}
}

// variable and constant are expressions.
func variable(n int) api.Expr       { return api.Expr{IsVar: true, Var: n} }
func constant(v api.Value) api.Expr { return api.Expr{Val: v} }

// good is a right rule of a name: tests of all kinds, two Neg patterns, acts of all kinds.
func good(name string) api.Rule {
	return api.Rule{Name: name, Salience: -7, Pats: []api.Pat{
		{Tests: []api.Test{{Kind: api.Bind, Slot: 3, Var: 7}, {Kind: api.Eq, Slot: 1, Val: list(num(1), sym("k"))}, {Kind: api.NeVar, Slot: 2, Var: 7}, {Kind: api.Bind, Slot: 3}}},
		{Tmpl: 2, Neg: true, Tests: []api.Test{{Kind: api.EqVar, Slot: 1, Var: 7}, {Kind: api.Ne, Val: str("\u00e9")}}},
		{Tmpl: 1, Tests: []api.Test{{Kind: api.Lt, Val: num(-2)}, {Kind: api.Bind, Var: 4}, {Kind: api.GtVar, Var: 4}, {Kind: api.LtVar}, {Kind: api.Gt, Val: truth(1)}, {Kind: api.Eq}}},
		{Tmpl: 2, Neg: true},
	}, Acts: []api.Act{
		{Kind: api.Make, Tmpl: 2, Vals: []api.Expr{constant(truth(0)), variable(4)}},
		{Kind: api.Alter, Pat: 2, Vals: []api.Expr{constant(list(str("z")))}},
		{Kind: api.Drop, Pat: 2},
		{Kind: api.Halt},
	}}
}

// small is a right rule of a name, of one pattern without tests.
func small(name string) api.Rule { return api.Rule{Name: name, Pats: []api.Pat{{Tmpl: 1}}} }

// names are names, no two of them the same, so many.
func names(n int) []string {
	return append([]string{"r", "R", "rr", "r-", strings.Repeat("r", api.MaxName), "Other_1", "seven", "eight"}[:min(n, 8)], []string{"nine", "ten", "eleven"}[:max(n-8, 0)]...)
}

// many are so many rules, each of them right.
func many(n int) []api.Rule {
	var l []api.Rule
	for i, s := range names(n) {
		if i%2 == 0 {
			l = append(l, good(s))
		} else {
			l = append(l, small(s))
		}
	}
	return l
}

// isName is what a name is, by layer 3's words.
var isName = regexp.MustCompile(`^[A-Za-z][A-Za-z0-9_-]{0,39}$`)

// fits says whether a value is right, and of one of some kinds.
func fits(types int, v api.Value) bool { return value.Right(v) && types>>v.Kind&1 == 1 }

// empty says whether a value is Null, and all else empty.
func empty(v api.Value) bool { return v.Kind == api.Null && value.Right(v) }

// rights says whether rules are right, by the chapter's words, over templates whose slots take some kinds.
func rights(kinds [][]int, rules []api.Rule) bool {
	seen := map[string]bool{}
	for _, x := range rules {
		if seen[x.Name] || !rightRule(kinds, x) {
			return false
		}
		seen[x.Name] = true
	}
	return len(rules) <= 8
}

// rightRule says whether a rule is, likewise.
func rightRule(kinds [][]int, x api.Rule) bool {
	if !isName.MatchString(x.Name) || x.Salience < -100 || x.Salience > 100 || len(x.Pats) < 1 || len(x.Pats) > 4 || x.Pats[0].Neg || len(x.Acts) > 4 {
		return false
	}
	bound := map[int]bool{}
	for _, p := range x.Pats {
		if p.Tmpl < 0 || p.Tmpl >= len(kinds) || len(p.Tests) > 6 {
			return false
		}
		for _, t := range p.Tests {
			ok := false
			switch t.Kind {
			case 1, 2, 3, 4:
				ok = value.Right(t.Val) && t.Var == 0
			case 5:
				ok = empty(t.Val) && 0 <= t.Var && t.Var <= 7 && !p.Neg && !bound[t.Var]
				bound[t.Var] = true
			case 6, 7, 8, 9:
				ok = empty(t.Val) && 0 <= t.Var && t.Var <= 7 && bound[t.Var]
			}
			if !ok || t.Slot < 0 || t.Slot >= len(kinds[p.Tmpl]) {
				return false
			}
		}
	}
	for _, a := range x.Acts {
		if !rightAct(kinds, x.Pats, bound, a) {
			return false
		}
	}
	return true
}

// rightAct says whether an act of a rule of some patterns and variables is, likewise.
func rightAct(kinds [][]int, pats []api.Pat, bound map[int]bool, a api.Act) bool {
	var slots []int
	has := 0 <= a.Pat && a.Pat < len(pats) && !pats[a.Pat].Neg
	switch a.Kind {
	case 1:
		if a.Tmpl < 0 || a.Tmpl >= len(kinds) || a.Pat != 0 || a.Slot != 0 {
			return false
		}
		slots = kinds[a.Tmpl]
	case 2:
		if !has || a.Tmpl != 0 || a.Slot != 0 {
			return false
		}
	case 3:
		if !has || a.Tmpl != 0 || a.Slot < 0 || a.Slot >= len(kinds[pats[a.Pat].Tmpl]) {
			return false
		}
		slots = []int{kinds[pats[a.Pat].Tmpl][a.Slot]}
	case 4:
		if a.Pat != 0 || a.Tmpl != 0 || a.Slot != 0 {
			return false
		}
	default:
		return false
	}
	return slices.EqualFunc(slots, a.Vals, func(types int, e api.Expr) bool {
		if e.IsVar {
			return bound[e.Var] && empty(e.Val)
		}
		return e.Var == 0 && fits(types, e.Val)
	})
}

// isRight asks Right of rules over reg.
func isRight(t *testing.T, rules []api.Rule, want bool) {
	t.Helper()
	if got := rule.Right(reg(), rules); got != want {
		t.Errorf("Right %s: %t", line(rules), got)
	}
}

// asks asks Right of a rule over reg, against the chapter's words.
func asks(t *testing.T, x api.Rule) {
	t.Helper()
	isRight(t, []api.Rule{x}, rights(kinds(), []api.Rule{x}))
}

// lineValue is a value as a text, right or not.
func lineValue(v api.Value) string {
	s := fmt.Sprintf("%d %d %q [", v.Kind, v.N, v.S)
	for _, x := range v.L {
		s += lineValue(x) + ", "
	}
	return s + "]"
}

// line is rules as a text, nil and empty lists as one.
func line(rules []api.Rule) string {
	s := fmt.Sprint(len(rules))
	for _, x := range rules {
		s += fmt.Sprintf("\n%q %d", x.Name, x.Salience)
		for _, p := range x.Pats {
			s += fmt.Sprintf("; pat %d %t", p.Tmpl, p.Neg)
			for _, t := range p.Tests {
				s += fmt.Sprintf(", %d %d %d %s", t.Kind, t.Slot, t.Var, lineValue(t.Val))
			}
		}
		for _, a := range x.Acts {
			s += fmt.Sprintf("; act %d %d %d %d", a.Kind, a.Pat, a.Tmpl, a.Slot)
			for _, e := range a.Vals {
				s += fmt.Sprintf(", %t %d %s", e.IsVar, e.Var, lineValue(e.Val))
			}
		}
	}
	return s
}

// textBytes are a text's bytes, by layer 6's words and the library's numbers.
func textBytes(s string) []byte {
	return append(binary.BigEndian.AppendUint32(nil, uint32(len(s))), s...)
}

// valueBytes are a right value's, likewise.
func valueBytes(v api.Value) []byte {
	b := []byte{byte(v.Kind)}
	switch v.Kind {
	case api.Bool:
		b = append(b, byte(v.N))
	case api.Int:
		b = binary.BigEndian.AppendUint64(b, uint64(v.N))
	case api.Sym, api.Str:
		b = append(b, textBytes(v.S)...)
	case api.List:
		b = binary.BigEndian.AppendUint32(b, uint32(len(v.L)))
		for _, x := range v.L {
			b = append(b, valueBytes(x)...)
		}
	}
	return b
}

// wire are rules' bytes, right or not, by the chapter's words.
func wire(rules []api.Rule) []byte {
	so := map[bool]byte{true: 1}
	b := binary.BigEndian.AppendUint32(nil, uint32(len(rules)))
	for _, x := range rules {
		b = append(b, textBytes(x.Name)...)
		b = binary.BigEndian.AppendUint64(b, uint64(x.Salience))
		b = binary.BigEndian.AppendUint32(b, uint32(len(x.Pats)))
		for _, p := range x.Pats {
			b = append(b, byte(p.Tmpl), so[p.Neg])
			b = binary.BigEndian.AppendUint32(b, uint32(len(p.Tests)))
			for _, t := range p.Tests {
				b = append(b, byte(t.Kind), byte(t.Slot), byte(t.Var))
				b = append(b, valueBytes(t.Val)...)
			}
		}
		b = binary.BigEndian.AppendUint32(b, uint32(len(x.Acts)))
		for _, a := range x.Acts {
			b = append(b, byte(a.Kind), byte(a.Pat), byte(a.Tmpl), byte(a.Slot))
			b = binary.BigEndian.AppendUint32(b, uint32(len(a.Vals)))
			for _, e := range a.Vals {
				b = append(b, so[e.IsVar], byte(e.Var))
				b = append(b, valueBytes(e.Val)...)
			}
		}
	}
	return b
}

// model is how rules' bytes are read, by the chapter's words: what is left, and whether all was there so far.
type model struct {
	b  []byte
	ok bool
}

// cut is the next so many bytes.
func (m *model) cut(n int) []byte {
	if !m.ok || n > len(m.b) {
		m.ok = false
		return make([]byte, min(n, 8))
	}
	b := m.b[:n]
	m.b = m.b[n:]
	return b
}

func (m *model) byte() int { return int(m.cut(1)[0]) }

func (m *model) flag() bool {
	n := m.byte()
	m.ok = m.ok && (n == 0 || n == 1)
	return n == 1
}

func (m *model) num() int {
	n := binary.BigEndian.Uint32(m.cut(4))
	m.ok = m.ok && n <= math.MaxInt32
	return int(n)
}

func (m *model) value() api.Value {
	r := bin.Read(m.b)
	v := r.Value()
	m.ok = m.ok && !r.Bad()
	m.b = m.b[len(m.b)-r.Left():]
	return v
}

// each does what there is to do for each of a list's things.
func (m *model) each(do func()) {
	for n := m.num(); n > 0 && m.ok; n-- {
		do()
	}
}

func (m *model) rule() (x api.Rule) {
	if n := m.num(); m.ok {
		x.Name = string(m.cut(n))
	}
	x.Salience = int(int64(binary.BigEndian.Uint64(m.cut(8))))
	m.each(func() {
		p := api.Pat{Tmpl: m.byte()}
		p.Neg = m.flag()
		m.each(func() {
			t := api.Test{Kind: m.byte()}
			t.Slot = m.byte()
			t.Var = m.byte()
			t.Val = m.value()
			p.Tests = append(p.Tests, t)
		})
		x.Pats = append(x.Pats, p)
	})
	m.each(func() {
		a := api.Act{Kind: m.byte()}
		a.Pat = m.byte()
		a.Tmpl = m.byte()
		a.Slot = m.byte()
		m.each(func() {
			e := api.Expr{IsVar: m.flag()}
			e.Var = m.byte()
			e.Val = m.value()
			a.Vals = append(a.Vals, e)
		})
		x.Acts = append(x.Acts, a)
	})
	return x
}

// read are the right rules that stand there, over reg, and what stands behind them.
func read(b []byte) (l []api.Rule, rest []byte, ok bool) {
	m := &model{b, true}
	m.each(func() { l = append(l, m.rule()) })
	if !m.ok || !rights(kinds(), l) {
		return nil, nil, false
	}
	return l, m.b, true
}

// reads asks Read of bytes, over reg: what stands there, and what is left behind it.
func reads(t *testing.T, b []byte) {
	t.Helper()
	want, rest, ok := read(b)
	r := bin.Read(b)
	got, there := rule.Read(r, reg())
	if there != ok || line(got) != line(want) || !ok && got != nil {
		t.Errorf("Read %x: %s, %t, not %s, %t", b, line(got), there, line(want), ok)
	}
	if ok && (r.Bad() || r.Left() != len(rest)) {
		t.Errorf("Read %x: %d left, not %d", b, r.Left(), len(rest))
	}
}

// TestP171Written: P17.1, rules written out, the chapter's example ahead of all.
func TestP171Written(t *testing.T) {
	a := []api.Rule{{Name: "r", Pats: []api.Pat{{Tmpl: 1, Tests: []api.Test{{Kind: api.Bind}}}}, Acts: []api.Act{{Kind: api.Make, Tmpl: 1, Vals: []api.Expr{variable(0)}}}}}
	isRight(t, a, true)
	a[0].Pats[0].Tests = nil
	isRight(t, a, false)
	isRight(t, nil, true)
	isRight(t, []api.Rule{}, true)
	isRight(t, []api.Rule{small("a")}, true)
	isRight(t, []api.Rule{good("a")}, true)
	isRight(t, []api.Rule{good("a"), small("b"), good("c")}, true)
	isRight(t, []api.Rule{{}}, false)
	isRight(t, []api.Rule{{Name: "r"}}, false)
	isRight(t, []api.Rule{small("a"), {Name: "r"}, small("b")}, false)
}

// spoils are rules of a name like good, each but for one thing by which it isn't right.
func spoils(name string) []api.Rule {
	var l []api.Rule
	for _, spoil := range []func(x *api.Rule){
		func(x *api.Rule) { x.Salience = 101 },
		func(x *api.Rule) { x.Salience = -101 },
		func(x *api.Rule) { x.Salience = math.MaxInt },
		func(x *api.Rule) { x.Salience = math.MinInt },
		func(x *api.Rule) { x.Salience = 1 << 32 },
		func(x *api.Rule) { x.Pats = nil },
		func(x *api.Rule) { x.Pats = []api.Pat{} },
		func(x *api.Rule) { x.Pats = append(x.Pats, api.Pat{}) },
		func(x *api.Rule) { *x = small(name); x.Pats[0].Neg = true },
		func(x *api.Rule) { x.Pats[0] = x.Pats[3] },
		func(x *api.Rule) { x.Pats[3].Tmpl = -1 },
		func(x *api.Rule) { x.Pats[3].Tmpl = 3 },
		func(x *api.Rule) { x.Pats[3].Tmpl = 256 },
		func(x *api.Rule) { x.Pats[3].Tmpl = math.MinInt },
		func(x *api.Rule) { x.Pats[2].Tests = append(x.Pats[2].Tests, api.Test{Kind: api.Eq}) },
		func(x *api.Rule) { x.Pats[0].Tests[1].Kind = 0 },
		func(x *api.Rule) { x.Pats[0].Tests[1].Kind = 10 },
		func(x *api.Rule) { x.Pats[0].Tests[1].Kind = -1 },
		func(x *api.Rule) { x.Pats[0].Tests[1].Kind = 257 },
		func(x *api.Rule) { x.Pats[0].Tests[1].Slot = -1 },
		func(x *api.Rule) { x.Pats[0].Tests[1].Slot = 4 },
		func(x *api.Rule) { x.Pats[0].Tests[1].Slot = 256 },
		func(x *api.Rule) { x.Pats[0].Tests[0].Slot = 4 },
		func(x *api.Rule) { x.Pats[0].Tests[2].Slot = 4 },
		func(x *api.Rule) { x.Pats[1].Tests[0].Slot = 2 },
		func(x *api.Rule) { x.Pats[2].Tests[1].Slot = 1 },
		func(x *api.Rule) { x.Pats[0].Tests[1].Var = 7 },
		func(x *api.Rule) { x.Pats[0].Tests[1].Var = -1 },
		func(x *api.Rule) { x.Pats[0].Tests[0].Var = 8 },
		func(x *api.Rule) { x.Pats[0].Tests[0].Var = -1 },
		func(x *api.Rule) { x.Pats[0].Tests[2].Var = 0 },
		func(x *api.Rule) { x.Pats[0].Tests[2].Var = 8 },
		func(x *api.Rule) { x.Pats[0].Tests[2].Var = -1 },
		func(x *api.Rule) { x.Pats[0].Tests[3].Var = 7 },
		func(x *api.Rule) { x.Pats[2].Tests[1].Var = 7 },
		func(x *api.Rule) { x.Pats[2].Tests[1].Var = 0 },
		func(x *api.Rule) { x.Pats[1].Tests[0].Var = 4 },
		func(x *api.Rule) { x.Pats[1].Tests[0].Kind, x.Pats[1].Tests[0].Var = api.Bind, 1 },
		func(x *api.Rule) { x.Pats[2].Neg = true },
		func(x *api.Rule) { x.Pats[0].Tests[0].Val = num(0) },
		func(x *api.Rule) { x.Pats[0].Tests[0].Val.N = 1 },
		func(x *api.Rule) { x.Pats[1].Tests[0].Val = truth(0) },
		func(x *api.Rule) { x.Pats[1].Tests[0].Val.S = "a" },
		func(x *api.Rule) { x.Acts = append(x.Acts, api.Act{Kind: api.Halt}) },
		func(x *api.Rule) { x.Acts[3].Kind = 0 },
		func(x *api.Rule) { x.Acts[3].Kind = 5 },
		func(x *api.Rule) { x.Acts[3].Kind = -1 },
		func(x *api.Rule) { x.Acts[3].Kind = 260 },
		func(x *api.Rule) { x.Acts[3].Pat = 1 },
		func(x *api.Rule) { x.Acts[3].Tmpl = 1 },
		func(x *api.Rule) { x.Acts[3].Slot = 1 },
		func(x *api.Rule) { x.Acts[3].Vals = []api.Expr{{}} },
		func(x *api.Rule) { x.Acts[2].Pat = 1 },
		func(x *api.Rule) { x.Acts[2].Pat = 3 },
		func(x *api.Rule) { x.Acts[2].Pat = 4 },
		func(x *api.Rule) { x.Acts[2].Pat = -1 },
		func(x *api.Rule) { x.Acts[2].Tmpl = 1 },
		func(x *api.Rule) { x.Acts[2].Slot = -1 },
		func(x *api.Rule) { x.Acts[2].Vals = []api.Expr{variable(4)} },
		func(x *api.Rule) { x.Acts[1].Pat = 1 },
		func(x *api.Rule) { x.Acts[1].Pat = 4 },
		func(x *api.Rule) { x.Acts[1].Pat = -1 },
		func(x *api.Rule) { x.Acts[1].Tmpl = 1 },
		func(x *api.Rule) { x.Acts[1].Slot = 1 },
		func(x *api.Rule) { x.Acts[1].Slot = -1 },
		func(x *api.Rule) { x.Acts[1].Slot, x.Acts[1].Vals = 1, nil },
		func(x *api.Rule) { x.Acts[1].Vals = nil },
		func(x *api.Rule) { x.Acts[1].Vals = slices.Repeat(x.Acts[1].Vals, 2) },
		func(x *api.Rule) { x.Acts[0].Pat = 2 },
		func(x *api.Rule) { x.Acts[0].Slot = 1 },
		func(x *api.Rule) { x.Acts[0].Tmpl = 1 },
		func(x *api.Rule) { x.Acts[0].Tmpl = 0 },
		func(x *api.Rule) { x.Acts[0].Tmpl = 3 },
		func(x *api.Rule) { x.Acts[0].Tmpl = -1 },
		func(x *api.Rule) { x.Acts[0].Tmpl, x.Acts[0].Vals = 3, nil },
		func(x *api.Rule) { x.Acts[0].Vals = nil },
		func(x *api.Rule) { x.Acts[0].Vals = x.Acts[0].Vals[:1] },
		func(x *api.Rule) { x.Acts[0].Vals = append(x.Acts[0].Vals, variable(4)) },
		func(x *api.Rule) { x.Acts[0].Vals[0] = constant(num(0)) },
		func(x *api.Rule) { x.Acts[0].Vals[0].Var = 4 },
		func(x *api.Rule) { x.Acts[0].Vals[1].Var = 5 },
		func(x *api.Rule) { x.Acts[0].Vals[1].Var = -1 },
		func(x *api.Rule) { x.Acts[0].Vals[1].Var = 8 },
		func(x *api.Rule) { x.Acts[0].Vals[1].Val = list() },
		func(x *api.Rule) { x.Acts[0].Vals[1].Val.N = 1 },
	} {
		x := good(name)
		spoil(&x)
		l = append(l, x)
	}
	return l
}

// nameless are rules whose name isn't right.
func nameless() []api.Rule {
	return []api.Rule{small(""), small("1"), small("a b"), small("\u00e9"), small("\xff"), small("_"), small("-a"), good("a\n"), good(strings.Repeat("r", api.MaxName+1))}
}

// TestP171Wrong: P17.1, a rule that isn't right for one thing, alone, and at each place beside others.
func TestP171Wrong(t *testing.T) {
	for i, x := range slices.Concat(spoils("x"), nameless()) {
		if rights(kinds(), []api.Rule{x}) {
			t.Fatalf("%d is right", i)
		}
		isRight(t, []api.Rule{x}, false)
		for n := range 8 {
			l := many(8)
			l[n] = x
			isRight(t, l, false)
		}
	}
}

// TestP171Counts: P17.1, each list's limit, from both sides, and saliences.
func TestP171Counts(t *testing.T) {
	for n := range 12 {
		isRight(t, many(n), n <= 8)
		x := good("r")
		x.Pats, x.Acts = slices.Repeat([]api.Pat{{Tmpl: 1}}, n), nil
		isRight(t, []api.Rule{x}, n >= 1 && n <= 4)
		x.Pats = append([]api.Pat{{}}, slices.Repeat([]api.Pat{{Tmpl: 1, Neg: true}}, n)...)
		isRight(t, []api.Rule{x}, n <= 3)
		x.Pats = []api.Pat{{}, {Tests: slices.Repeat([]api.Test{{Kind: api.Eq}}, n)}}
		isRight(t, []api.Rule{x}, n <= 6)
		x.Pats = []api.Pat{{}, {Neg: true, Tests: slices.Repeat([]api.Test{{Kind: api.Gt, Slot: 3}}, n)}}
		isRight(t, []api.Rule{x}, n <= 6)
		x.Acts = slices.Repeat([]api.Act{{Kind: api.Drop}}, n)
		x.Pats = x.Pats[:1]
		isRight(t, []api.Rule{x}, n <= 4)
		x.Acts = []api.Act{{Kind: api.Make, Tmpl: 2, Vals: slices.Repeat([]api.Expr{{}}, n)}}
		x.Acts[0].Vals = append([]api.Expr{constant(truth(1))}, x.Acts[0].Vals...)
		isRight(t, []api.Rule{x}, n == 1)
	}
	isRight(t, slices.Repeat([]api.Rule{small("a")}, 9), false)
	isRight(t, slices.Repeat([]api.Rule{small("a")}, 1000), false)
	for n := -300; n <= 300; n++ {
		x := small("a")
		x.Salience = n
		isRight(t, []api.Rule{x}, n >= -100 && n <= 100)
	}
}

// TestP171Names: P17.1, every two rules of one name, and names that are almost the same; names that are none.
func TestP171Names(t *testing.T) {
	for i := range 8 {
		for j := range i {
			l := many(8)
			l[i].Name = l[j].Name
			isRight(t, l, false)
			isRight(t, []api.Rule{l[i], l[j]}, false)
		}
	}
	isRight(t, []api.Rule{small("a"), small("A"), small("aa"), small("a-"), small("b")}, true)
	isRight(t, []api.Rule{good("t"), good("u"), good("v")}, true)
	for x := range 256 {
		asks(t, small(string([]byte{byte(x)})))
		asks(t, small(string([]byte{'a', byte(x)})))
	}
	for n := range 100 {
		asks(t, small(strings.Repeat("n", n)))
	}
}

// TestP171Tests: P17.1, each kind of test, of slots, variables and values from far outside to far outside, in the first pattern, in a later one, and in a Neg one.
func TestP171Tests(t *testing.T) {
	bind := api.Pat{Tests: []api.Test{{Kind: api.Bind, Slot: 1, Var: 3}}}
	vals := []api.Value{{}, num(1), {N: 1}, str("\xff")}
	for kind := -1; kind <= 11; kind++ {
		for _, slot := range []int{math.MinInt, -1, 0, 1, 2, 3, 4, 5, 256, math.MaxInt} {
			for n := -2; n <= 9; n++ {
				for _, v := range vals {
					x := api.Test{Kind: kind, Slot: slot, Var: n, Val: v}
					asks(t, api.Rule{Name: "r", Pats: []api.Pat{{Tests: []api.Test{x}}}})
					asks(t, api.Rule{Name: "r", Pats: []api.Pat{{Tests: []api.Test{bind.Tests[0], x}}}})
					for tmpl := range 3 {
						asks(t, api.Rule{Name: "r", Pats: []api.Pat{bind, {Tmpl: tmpl, Tests: []api.Test{x}}}})
						asks(t, api.Rule{Name: "r", Pats: []api.Pat{bind, {Tmpl: tmpl, Neg: true, Tests: []api.Test{x}}}})
					}
				}
			}
		}
	}
}

// TestP171TestValues: P17.1, all kinds of tests of all kinds of values, right and wrong; a value needn't fit its slot.
func TestP171TestValues(t *testing.T) {
	for kind := api.Eq; kind <= api.GtVar; kind++ {
		for i, v := range slices.Concat(rightValues(), wrongValues()) {
			for slot := range 4 {
				first := api.Test{Kind: api.Bind, Slot: 1, Var: 1}
				x := api.Rule{Name: "r", Pats: []api.Pat{{Tests: []api.Test{first, {Kind: kind, Slot: slot, Val: v}}}}}
				if kind > api.Gt {
					x.Pats[0].Tests[1].Var = 1
				}
				if kind == api.Bind {
					x.Pats[0].Tests[1].Var = 2
				}
				isRight(t, []api.Rule{x}, kind <= api.Gt && i < len(rightValues()) || i == 0)
			}
		}
	}
}

// TestP171Bindings: P17.1, all rows of up to five tests of a few variables, cut into patterns at all places, some of them Neg: who is bound ahead.
func TestP171Bindings(t *testing.T) {
	parts := []api.Test{{Kind: api.Bind}, {Kind: api.Bind, Var: 7}, {Kind: api.EqVar}, {Kind: api.GtVar, Var: 7}, {Kind: api.NeVar, Var: 1}}
	var grow func(pats []api.Pat, left int)
	grow = func(pats []api.Pat, left int) {
		x := api.Rule{Name: "r", Pats: pats, Acts: []api.Act{{Kind: api.Halt}}}
		asks(t, x)
		for _, n := range []int{0, 1, 7} {
			x.Acts = []api.Act{{Kind: api.Make, Tmpl: 1, Vals: []api.Expr{variable(n)}}}
			asks(t, x)
		}
		if left == 0 {
			return
		}
		for _, p := range parts {
			l := slices.Clone(pats)
			last := &l[len(l)-1]
			last.Tests = append(slices.Clone(last.Tests), p)
			grow(l, left-1)
		}
		if len(pats) < 4 {
			grow(append(slices.Clone(pats), api.Pat{Tmpl: 1}), left-1)
			grow(append(slices.Clone(pats), api.Pat{Tmpl: 1, Neg: true}), left-1)
		}
	}
	grow([]api.Pat{{Tmpl: 1}}, 5)
}

// TestP171Vars: P17.1, all variables bound, by as many patterns as may be, and told in each act.
func TestP171Vars(t *testing.T) {
	for n := range 10 {
		x := api.Rule{Name: "r", Pats: []api.Pat{{}, {}, {}}}
		for i := range n {
			p := &x.Pats[i%3]
			p.Tests = append(p.Tests, api.Test{Kind: api.Bind, Slot: i % 4, Var: i})
		}
		isRight(t, []api.Rule{x}, n <= 8)
		for k := -1; k <= 9; k++ {
			x.Acts = []api.Act{{Kind: api.Make, Vals: slices.Repeat([]api.Expr{variable(k)}, 4)}, {Kind: api.Alter, Pat: 1, Slot: 2, Vals: []api.Expr{variable(k)}}}
			isRight(t, []api.Rule{x}, n <= 8 && k >= 0 && k < n)
		}
	}
	// What the first pattern binds holds in the last one; what the last one binds, in acts alone.
	first, last := good("a"), good("b")
	first.Pats[3].Tests = []api.Test{{Kind: api.GtVar, Var: 7}}
	last.Pats[3] = api.Pat{Tests: []api.Test{{Kind: api.Bind, Var: 1}}}
	last.Acts[0].Vals[1] = variable(1)
	isRight(t, []api.Rule{first, last}, true)
	last.Pats[0].Tests[2].Var = 1
	isRight(t, []api.Rule{first, last}, false)
	// What one rule binds, another one doesn't.
	other := small("c")
	other.Acts = []api.Act{{Kind: api.Make, Tmpl: 1, Vals: []api.Expr{variable(7)}}}
	isRight(t, []api.Rule{first, other}, false)
	isRight(t, []api.Rule{first, small("c")}, true)
}

// TestP171Acts: P17.1, each kind of act, of patterns, templates and slots from outside to outside, of several lists of expressions.
func TestP171Acts(t *testing.T) {
	x := api.Rule{Name: "r", Pats: []api.Pat{{Tests: []api.Test{{Kind: api.Bind, Var: 2}}}, {Tmpl: 1, Neg: true}, {Tmpl: 2}}}
	rows := [][]api.Expr{nil, {}, {{}}, {variable(2)}, {variable(0)}, {constant(num(1))}, {constant(truth(1))}, {{Var: 2}}, {variable(2), variable(2)}, {constant(truth(1)), {}},
		{constant(num(1)), {}, constant(str("")), constant(list())}, {variable(2), variable(2), variable(2), variable(2)}, {{}, {}, {}, {}}}
	for kind := -1; kind <= 6; kind++ {
		for pat := -1; pat <= 4; pat++ {
			for tmpl := -1; tmpl <= 3; tmpl++ {
				for _, slot := range []int{-1, 0, 1, 2, 3, 4, 256} {
					for _, vals := range rows {
						x.Acts = []api.Act{{Kind: kind, Pat: pat, Tmpl: tmpl, Slot: slot, Vals: vals}}
						asks(t, x)
					}
				}
			}
		}
	}
	for _, n := range []int{math.MinInt, -1 << 32, 256, 1 << 32, math.MaxInt} {
		for _, a := range []api.Act{{Kind: n}, {Kind: api.Drop, Pat: n}, {Kind: api.Drop, Tmpl: n}, {Kind: api.Drop, Slot: n}, {Kind: api.Halt, Slot: n}, {Kind: api.Make, Tmpl: n}, {Kind: api.Alter, Pat: n, Vals: rows[3]}, {Kind: api.Alter, Slot: n, Vals: rows[3]}} {
			x.Acts = []api.Act{a}
			isRight(t, []api.Rule{x}, false)
		}
	}
}

// TestP171ActPlaces: P17.1, each wrong act at each place among right ones.
func TestP171ActPlaces(t *testing.T) {
	for _, a := range []api.Act{{}, {Kind: api.Drop, Pat: 1}, {Kind: api.Halt, Pat: 1}, {Kind: api.Make, Tmpl: 1}, {Kind: api.Alter}} {
		for i := range 4 {
			x := good("r")
			x.Acts[i] = a
			isRight(t, []api.Rule{x}, false)
			x.Acts = slices.Repeat([]api.Act{{Kind: api.Drop}}, 4)
			isRight(t, []api.Rule{x}, true)
			x.Acts[i] = a
			isRight(t, []api.Rule{x}, false)
		}
	}
}

// TestP171Exprs: P17.1, each value, right and wrong, as an expression for each slot, by Make and by Alter: each slot takes what it takes at its template's last version.
func TestP171Exprs(t *testing.T) {
	fill := map[int]api.Value{in: num(1), null | in | st: {}, st: str("s"), sy | li: sym("s"), 63: {}, boo: truth(0), li | null: list()}
	for tmpl, slots := range kinds() {
		var row []api.Expr
		for _, types := range slots {
			row = append(row, constant(fill[types]))
		}
		for slot, types := range slots {
			for _, v := range slices.Concat(rightValues(), wrongValues()) {
				for _, e := range []api.Expr{constant(v), {Var: 3, Val: v}, {Var: -1, Val: v}, {IsVar: true, Var: 3, Val: v}, {IsVar: true, Var: 2, Val: v}, {IsVar: true, Val: v}} {
					want := e.IsVar && e.Var == 3 && empty(v) || !e.IsVar && e.Var == 0 && fits(types, v)
					x := api.Rule{Name: "r", Pats: []api.Pat{{Tmpl: tmpl, Tests: []api.Test{{Kind: api.Bind, Var: 3}}}}}
					vals := slices.Clone(row)
					vals[slot] = e
					x.Acts = []api.Act{{Kind: api.Make, Tmpl: tmpl, Vals: vals}}
					isRight(t, []api.Rule{x}, want)
					x.Acts = []api.Act{{Kind: api.Alter, Slot: slot, Vals: []api.Expr{e}}}
					isRight(t, []api.Rule{x}, want)
				}
			}
		}
	}
}

// wrongRegs are registries that aren't right.
func wrongRegs() [][]api.Template {
	var l [][]api.Template
	for _, spoil := range []func(x []api.Template) []api.Template{
		func(x []api.Template) []api.Template { return append(x, x[1]) },
		func(x []api.Template) []api.Template { return append(x, api.Template{}) },
		func(x []api.Template) []api.Template { return append(x, x[2], x[2], x[2], x[2]) },
		func(x []api.Template) []api.Template { x[2].Name = "t"; return x },
		func(x []api.Template) []api.Template { x[2].Name = "2"; return x },
		func(x []api.Template) []api.Template { x[2].Slots[0].Types = 0; return x },
		func(x []api.Template) []api.Template { x[2].Slots[0].Def = num(1); return x },
		func(x []api.Template) []api.Template { x[0].Steps[4].Kind = 6; return x },
		func(x []api.Template) []api.Template { x[0].Steps[1].Col = 4; return x },
		func(x []api.Template) []api.Template { x[0].Slots = nil; return x },
	} {
		l = append(l, spoil(reg()))
	}
	var many []api.Template
	for _, s := range names(7) {
		many = append(many, api.Template{Name: s, Slots: reg()[1].Slots})
	}
	return append(l, many)
}

// TestP171Registry: P17.1, of a registry that isn't right no rules are, and none are read; of other registries those are that are of their templates.
func TestP171Registry(t *testing.T) {
	least := []api.Rule{{Name: "r", Pats: []api.Pat{{Tmpl: 1}}}}
	for i, x := range wrongRegs() {
		for _, l := range [][]api.Rule{nil, {}, least, {good("r")}} {
			if rule.Right(x, l) {
				t.Errorf("%d: %s", i, line(l))
			}
			if got, ok := rule.Read(bin.Read(wire(l)), x); ok || got != nil {
				t.Errorf("%d: read %s", i, line(got))
			}
		}
	}
	six := reg()
	for _, s := range names(3) {
		six = append(six, api.Template{Name: s, Slots: reg()[1].Slots})
	}
	for n := range 7 {
		if got := rule.Right(six[:n], nil); !got {
			t.Errorf("no rules, %d templates: %t", n, got)
		}
		if got := rule.Right(six[:n], least); got != (n > 1) {
			t.Errorf("a rule, %d templates: %t", n, got)
		}
		if got := rule.Right(six[:n], many(8)); got != (n > 2) {
			t.Errorf("rules, %d templates: %t", n, got)
		}
		for k := range 8 {
			x := []api.Rule{{Name: "r", Pats: []api.Pat{{Tmpl: k}}}}
			if got := rule.Right(six[:n], x); got != (k < n) {
				t.Errorf("template %d of %d: %t", k, n, got)
			}
		}
	}
	if rule.Right(nil, least) || !rule.Right(nil, nil) || !rule.Right([]api.Template{}, []api.Rule{}) {
		t.Error("no templates")
	}
}

// TestP171Bound: P17.1, the variables of Binds, in order, of rules right and not.
func TestP171Bound(t *testing.T) {
	tests := func(vars ...int) (l []api.Test) {
		for i, n := range vars {
			l = append(l, api.Test{Kind: api.Bind, Slot: i, Var: n})
		}
		return l
	}
	others := []api.Test{{Kind: api.Eq, Var: 9}, {Kind: api.GtVar, Var: 8}, {Kind: 0, Var: 6}, {Kind: 10, Var: 5}, {Kind: 256 + api.Bind, Var: 3}}
	for _, c := range []struct {
		x    api.Rule
		want []int
	}{
		{api.Rule{}, nil},
		{small("a"), nil},
		{good("a"), []int{7, 0, 4}},
		{api.Rule{Pats: []api.Pat{{Tests: tests(3)}}}, []int{3}},
		{api.Rule{Pats: []api.Pat{{Tests: tests(7, 6, 5)}, {Tests: tests()}, {Tests: tests(4, 3)}, {Tests: tests(0, 1, 2)}}}, []int{7, 6, 5, 4, 3, 0, 1, 2}},
		{api.Rule{Pats: []api.Pat{{Tests: slices.Concat(others, tests(2), others, tests(1))}, {Tests: others}, {Tests: slices.Concat(tests(0), others)}}}, []int{2, 1, 0}},
		{api.Rule{Pats: []api.Pat{{Neg: true, Tests: tests(1, 1)}, {Tests: tests(-1, 8)}, {Tests: tests(1)}}}, []int{1, 1, -1, 8, 1}},
		{api.Rule{Pats: []api.Pat{{Tests: others}}, Acts: []api.Act{{Kind: api.Bind, Vals: []api.Expr{variable(1)}}}}, nil},
	} {
		if got := rule.Bound(c.x); !slices.Equal(got, c.want) {
			t.Errorf("%s: %v, not %v", line([]api.Rule{c.x}), got, c.want)
		}
	}
	x := good("a")
	l := rule.Bound(x)
	l[0] = 99
	if l = append(l[:1], 98, 97, 96); !slices.Equal(rule.Bound(x), []int{7, 0, 4}) {
		t.Error("what is done to an answer", l)
	}
}

// lineSlots is slots as a text.
func lineSlots(l []api.Slot) (s string) {
	for _, x := range l {
		s += fmt.Sprintf("%s %d %t %s; ", x.Name, x.Types, x.Req, lineValue(x.Def))
	}
	return s
}

// TestP171Slots: P17.1, the slots of each template as they are at the last version, lost ones too; of numbers of none, and of templates that aren't right, none.
func TestP171Slots(t *testing.T) {
	want := [][]api.Slot{
		{{Name: "a", Types: in, Def: num(0)}, {Name: "e", Types: null | in | st}, {Name: "c", Types: st, Req: true, Def: str("")}, {Name: "d", Types: sy | li, Def: sym("x")}},
		{{Name: "c", Types: 63}},
		{{Name: "p", Types: boo, Def: truth(1)}, {Name: "q", Types: li | null}},
	}
	for i, l := range want {
		if got := rule.Slots(reg(), i); lineSlots(got) != lineSlots(l) {
			t.Errorf("%d: %s", i, lineSlots(got))
		}
		for n := range 4 {
			if got := rule.Slots(reg()[:n], i); len(got) > 0 != (i < n) {
				t.Errorf("%d of %d: %s", i, n, lineSlots(got))
			}
		}
	}
	for _, n := range []int{math.MinInt, -1 << 32, -2, -1, 3, 4, 255, 256, 1 << 32, math.MaxInt} {
		if got := rule.Slots(reg(), n); got != nil {
			t.Errorf("%d: %s", n, lineSlots(got))
		}
		if got := rule.Slots(nil, n); got != nil {
			t.Errorf("%d of none: %s", n, lineSlots(got))
		}
	}
	odd := []api.Template{{}, reg()[2]}
	odd[1].Slots[1].Name = "p"
	for n := range 2 {
		if got := rule.Slots(odd, n); got != nil {
			t.Errorf("%d, that isn't right: %s", n, lineSlots(got))
		}
	}
	x := reg()
	for n := range x {
		l := rule.Slots(x, n)
		for i := range l {
			l[i].Def.L = append(l[i].Def.L, num(1))
			l[i].Name, l[i].Types = "turned", 1
		}
		l = append(l[:1], api.Slot{}, api.Slot{}, api.Slot{})
		if got := rule.Slots(x, n); lineSlots(got) != lineSlots(want[n]) || rule.Right(x, many(8)) != rule.Right(reg(), many(8)) {
			t.Errorf("%d, %d slots of an answer turned: %s", n, len(l), lineSlots(got))
		}
	}
}

// TestP172Written: P17.2, bytes written out, put and read.
func TestP172Written(t *testing.T) {
	const zero = "\x00\x00\x00\x00"
	const head = "\x00\x00\x00\x01\x00\x00\x00\x02rr"
	one := func(x api.Rule) []api.Rule { x.Name = "rr"; return []api.Rule{x} }
	pat := []api.Pat{{Tmpl: 1}}
	bind := api.Test{Kind: api.Bind, Var: 5}
	bound := []api.Pat{{Tmpl: 1, Tests: []api.Test{bind}}}
	const boundBytes = zero + zero + "\x00\x00\x00\x01\x01\x00\x00\x00\x00\x01\x05\x00\x05\x00"
	for _, c := range []struct {
		l    []api.Rule
		want string
	}{
		{nil, zero},
		{[]api.Rule{}, zero},
		{one(api.Rule{Pats: pat}), head + zero + zero + "\x00\x00\x00\x01\x01\x00" + zero + zero},
		{one(api.Rule{Salience: 100, Pats: pat}), head + zero + "\x00\x00\x00\x64\x00\x00\x00\x01\x01\x00" + zero + zero},
		{one(api.Rule{Salience: -2, Pats: pat}), head + "\xff\xff\xff\xff\xff\xff\xff\xfe\x00\x00\x00\x01\x01\x00" + zero + zero},
		{[]api.Rule{{Name: "b", Pats: pat}, {Name: "a", Salience: 1, Pats: pat}}, "\x00\x00\x00\x02\x00\x00\x00\x01b" + zero + zero + "\x00\x00\x00\x01\x01\x00" + zero + zero + "\x00\x00\x00\x01a" + zero + "\x00\x00\x00\x01\x00\x00\x00\x01\x01\x00" + zero + zero},
		{one(api.Rule{Pats: []api.Pat{{}, {Tmpl: 2, Neg: true}}}), head + zero + zero + "\x00\x00\x00\x02\x00\x00" + zero + "\x02\x01" + zero + zero},
		{one(api.Rule{Pats: bound}), head + boundBytes + zero},
		{one(api.Rule{Pats: []api.Pat{{Tests: []api.Test{{Kind: api.Ne, Slot: 3, Val: str("ab")}, {Kind: api.Bind, Slot: 2, Var: 7}, {Kind: api.GtVar, Slot: 1, Var: 7}}}}}), head + zero + zero + "\x00\x00\x00\x01\x00\x00\x00\x00\x00\x03\x02\x03\x00\x04\x00\x00\x00\x02ab\x05\x02\x07\x00\x09\x01\x07\x00" + zero},
		{one(api.Rule{Pats: bound, Acts: []api.Act{{Kind: api.Halt}, {Kind: api.Drop}}}), head + boundBytes + "\x00\x00\x00\x02\x04\x00\x00\x00" + zero + "\x02\x00\x00\x00" + zero},
		{one(api.Rule{Pats: bound, Acts: []api.Act{{Kind: api.Make, Tmpl: 2, Vals: []api.Expr{constant(truth(1)), variable(5)}}}}), head + boundBytes + "\x00\x00\x00\x01\x01\x00\x02\x00\x00\x00\x00\x02\x00\x00\x01\x01\x01\x05\x00"},
		{one(api.Rule{Pats: []api.Pat{{Tmpl: 1}, {}}, Acts: []api.Act{{Kind: api.Alter, Pat: 1, Slot: 2, Vals: []api.Expr{constant(str("x"))}}}}), head + zero + zero + "\x00\x00\x00\x02\x01\x00" + zero + "\x00\x00" + zero + "\x00\x00\x00\x01\x03\x01\x00\x02\x00\x00\x00\x01\x00\x00\x04\x00\x00\x00\x01x"},
	} {
		if b := rule.Put(c.l); string(b) != c.want {
			t.Errorf("Put %s: %x, not %x", line(c.l), b, c.want)
		}
		r := bin.Read([]byte(c.want))
		if l, ok := rule.Read(r, reg()); !ok || line(l) != line(c.l) || !r.Done() {
			t.Errorf("Read %x: %s, %t", c.want, line(l), ok)
		}
		r = bin.Read([]byte(c.want + "\x07"))
		if l, ok := rule.Read(r, reg()); !ok || line(l) != line(c.l) || r.Byte() != 7 || !r.Done() {
			t.Errorf("Read %x, and a byte: %s, %t", c.want, line(l), ok)
		}
	}
}

// puts asks Put of rules: bytes by the chapter's words, or none.
func puts(t *testing.T, rules []api.Rule, want bool) {
	t.Helper()
	b := rule.Put(rules)
	if want && !bytes.Equal(b, wire(rules)) || !want && b != nil {
		t.Errorf("Put %s: %x", line(rules), b)
	}
}

// numbers are where a rule like good has numbers that are bytes.
func numbers(x *api.Rule) []*int {
	var l []*int
	for i := range x.Pats {
		p := &x.Pats[i]
		l = append(l, &p.Tmpl)
		for j := range p.Tests {
			l = append(l, &p.Tests[j].Kind, &p.Tests[j].Slot, &p.Tests[j].Var)
		}
	}
	for i := range x.Acts {
		a := &x.Acts[i]
		l = append(l, &a.Kind, &a.Pat, &a.Tmpl, &a.Slot)
		for j := range a.Vals {
			l = append(l, &a.Vals[j].Var)
		}
	}
	return l
}

// vals are where a rule like good has values.
func vals(x *api.Rule) []*api.Value {
	var l []*api.Value
	for i := range x.Pats {
		for j := range x.Pats[i].Tests {
			l = append(l, &x.Pats[i].Tests[j].Val)
		}
	}
	for i := range x.Acts {
		for j := range x.Acts[i].Vals {
			l = append(l, &x.Acts[i].Vals[j].Val)
		}
	}
	return l
}

// TestP172PutNumbers: P17.2, each number that is a byte, from far outside to far outside, in each of several rules.
func TestP172PutNumbers(t *testing.T) {
	x := good("r")
	for i := range numbers(&x) {
		for _, n := range []int{math.MinInt, -1 << 32, -256, -255, -1, 0, 1, 2, 9, 127, 128, 254, 255, 256, 257, 512, 65536, 1 << 31, 1 << 32, 1<<32 + 1, math.MaxInt} {
			for k := range 3 {
				l := []api.Rule{good("a"), good("b"), good("c")}
				*numbers(&l[k])[i] = n
				puts(t, l, n >= 0 && n <= 255)
				puts(t, l[k:k+1], n >= 0 && n <= 255)
			}
		}
	}
}

// TestP172PutValues: P17.2, each value, right or not, at each place, in each of several rules.
func TestP172PutValues(t *testing.T) {
	deep := []api.Value{nest(100, num(1)), nest(1<<16, num(1)), list(slices.Repeat([]api.Value{list(slices.Repeat([]api.Value{{}}, 1000)...)}, 1000)...)}
	x := good("r")
	for i := range vals(&x) {
		for j, v := range slices.Concat(rightValues(), wrongValues(), deep) {
			for k := range 3 {
				l := []api.Rule{good("a"), good("b"), good("c")}
				*vals(&l[k])[i] = v
				if j < len(rightValues()) {
					puts(t, l, true)
				} else if b := rule.Put(l); b != nil {
					t.Errorf("place %d, value %d: %x", i, j, b)
				}
			}
		}
	}
}

// TestP172PutOdd: P17.2, rules that aren't right have bytes, if their numbers are such: any names and saliences, lists of any length.
func TestP172PutOdd(t *testing.T) {
	for _, x := range slices.Concat(nameless(), []api.Rule{{}, {Name: "\x00"}, small(strings.Repeat("n", 70000))}) {
		puts(t, []api.Rule{x}, true)
		puts(t, []api.Rule{x, x, good("a")}, true)
	}
	for _, n := range []int{math.MinInt, math.MinInt32, -256, -101, -1, 101, 256, 1 << 32, math.MaxInt32, math.MaxInt} {
		x := good("a")
		x.Salience = n
		puts(t, []api.Rule{x}, true)
	}
	x := good("a")
	x.Pats[0].Neg = true
	puts(t, []api.Rule{x, x}, true)
	for _, n := range []int{5, 7, 9, 255, 256, 257, 3000} {
		puts(t, slices.Repeat([]api.Rule{small("a")}, n), true)
		x.Pats = slices.Repeat(good("a").Pats[:1], n)
		x.Acts = slices.Repeat(good("a").Acts[:1], n)
		puts(t, []api.Rule{x}, true)
		x.Pats = []api.Pat{{Tests: slices.Repeat([]api.Test{{Val: list(num(1))}}, n)}}
		x.Acts = []api.Act{{Vals: slices.Repeat([]api.Expr{{IsVar: true, Var: 255, Val: str("a")}}, n)}}
		puts(t, []api.Rule{x}, true)
	}
}

// TestP172Bytes: P17.2, rules' bytes with each of them turned to all others, away, doubled, or the end there.
func TestP172Bytes(t *testing.T) {
	b := wire([]api.Rule{good("r"), small("x")})
	reads(t, b)
	for i := range b {
		reads(t, b[:i])
		reads(t, slices.Concat(b[:i], b[i+1:]))
		reads(t, slices.Concat(b[:i+1], b[i:]))
		for x := range 256 {
			c := slices.Clone(b)
			c[i] = byte(x)
			reads(t, c)
		}
		if l, ok := rule.Read(bin.Read(b[:i]), reg()); ok || l != nil {
			t.Errorf("the end ahead of byte %d", i)
		}
	}
	for x := range 256 {
		reads(t, append(slices.Clone(b), byte(x)))
	}
	reads(t, append(slices.Clone(b), b...))
}

// TestP172Flags: P17.2, the bytes for Neg and IsVar are 0 or 1.
func TestP172Flags(t *testing.T) {
	l := []api.Rule{{Name: "r", Pats: []api.Pat{{Tmpl: 1, Tests: []api.Test{{Kind: api.Bind}}}, {Tmpl: 1}}, Acts: []api.Act{{Kind: api.Make, Tmpl: 1, Vals: []api.Expr{{}}}}}}
	b := wire(l)
	neg, isVar := len(b)-20, len(b)-3
	for x := range 256 {
		c := slices.Clone(b)
		c[neg] = byte(x)
		reads(t, c)
		got, ok := rule.Read(bin.Read(c), reg())
		if ok != (x <= 1) || ok && got[0].Pats[1].Neg != (x == 1) {
			t.Errorf("Neg, %d: %t", x, ok)
		}
		c[neg], c[isVar] = 0, byte(x)
		reads(t, c)
		got, ok = rule.Read(bin.Read(c), reg())
		if ok != (x <= 1) || ok && got[0].Acts[0].Vals[0].IsVar != (x == 1) {
			t.Errorf("IsVar, %d: %t", x, ok)
		}
	}
}

// TestP172Wrong: P17.2, bytes of rules that aren't right, alone and among right ones.
func TestP172Wrong(t *testing.T) {
	for _, x := range slices.Concat(spoils("x"), nameless()) {
		reads(t, wire([]api.Rule{x}))
		reads(t, wire([]api.Rule{small("a"), x, good("b")}))
	}
	for n := range 12 {
		reads(t, wire(many(n)))
		if l, ok := rule.Read(bin.Read(wire(many(n))), reg()); ok != (n <= 8) || len(l) > 8 {
			t.Errorf("%d rules: %t", n, ok)
		}
	}
	for i := range 8 {
		for j := range i {
			l := many(8)
			l[i].Name = l[j].Name
			if got, ok := rule.Read(bin.Read(wire(l)), reg()); ok || got != nil {
				t.Errorf("the names %d and %d are the same", i, j)
			}
		}
	}
}

// TestP172Counts: P17.2, each list's number turned to others, whether so many things stand there or not.
func TestP172Counts(t *testing.T) {
	b := wire([]api.Rule{good("r"), small("x")})
	var at []int
	for i := range len(b) - 3 {
		// All counts there are below 256.
		if bytes.HasPrefix(b[i:], []byte{0, 0, 0}) {
			at = append(at, i)
		}
	}
	for _, i := range at {
		for _, n := range []uint32{0, 1, 2, 3, 4, 5, 6, 7, 8, 9, 13, 255, 256, 65536, 1 << 24, 1<<31 - 1, 1 << 31, 1<<32 - 1} {
			c := slices.Clone(b)
			binary.BigEndian.PutUint32(c[i:], n)
			reads(t, c)
			reads(t, append(c, bytes.Repeat([]byte{1, 0}, 3000)...))
		}
	}
	for _, rest := range []string{"\x00", "\x00\x00\x00\x01", "\x00\x00\x00\x04", "\x00\x00\x00\x01r\x00", "\x7f\xff\xff\xff"} {
		long := append([]byte{0x7f, 0xff, 0xff, 0xff}, bytes.Repeat([]byte(rest), 1<<18)...)
		if l, ok := rule.Read(bin.Read(long), reg()); ok || l != nil {
			t.Errorf("far more than there may be, of %x: %d", rest, len(l))
		}
	}
}

// TestP172Saliences: P17.2, saliences as they stand in bytes, of 64 bits.
func TestP172Saliences(t *testing.T) {
	x := small("a")
	for _, n := range []int{math.MinInt, -1<<32 - 1, -1 << 32, -1<<32 + 1, -1 << 8, -101, -100, -1, 0, 1, 100, 101, 1 << 8, 1 << 16, 1<<32 - 1, 1 << 32, 1<<32 + 1, 1 << 63 >> 1, math.MaxInt} {
		x.Salience = n
		reads(t, wire([]api.Rule{x}))
		l, ok := rule.Read(bin.Read(wire([]api.Rule{x})), reg())
		if ok != (n >= -100 && n <= 100) || ok && l[0].Salience != n {
			t.Errorf("%d: %t", n, ok)
		}
	}
}

// TestP172Reader: P17.2, readers that are none, bad, empty, or stand within bytes; rules one behind the other.
func TestP172Reader(t *testing.T) {
	bad := bin.Read(wire(many(2))[:2])
	bad.Num()
	for i, r := range []*bin.Reader{nil, bad, bin.Read(nil), bin.Read([]byte{}), bin.Read([]byte{0, 0, 0})} {
		if l, ok := rule.Read(r, reg()); ok || l != nil {
			t.Errorf("%d: %s, %t", i, line(l), ok)
		}
	}
	r := bin.Read(slices.Concat([]byte{9}, wire(many(2)), wire(nil), wire(many(8)), []byte{1, 0, 0, 0, 1, 2}))
	r.Byte()
	for i, want := range [][]api.Rule{many(2), nil, many(8)} {
		if l, ok := rule.Read(r, reg()); !ok || line(l) != line(want) || r.Bad() {
			t.Errorf("%d: %s, %t", i, line(l), ok)
		}
	}
	if r.Left() != 6 || r.Byte() != 1 || r.Num() != 1 || r.Byte() != 2 || !r.Done() {
		t.Error("what stands behind")
	}
}

// TestP172Registry: P17.2, rules are read over the registry that is handed in.
func TestP172Registry(t *testing.T) {
	b := wire([]api.Rule{good("a"), small("b")})
	x := reg()
	for i, c := range []struct {
		reg  []api.Template
		want bool
	}{
		{x, true}, {x[:2], false}, {x[:1], false}, {nil, false}, {[]api.Template{x[0], x[2], x[1]}, false}, {[]api.Template{x[1], x[0], x[2]}, false},
		{append(reg(), api.Template{Name: "w", Slots: x[2].Slots}), true}, {append(reg(), x[2]), false},
	} {
		l, ok := rule.Read(bin.Read(b), c.reg)
		if ok != c.want || rule.Right(c.reg, []api.Rule{good("a"), small("b")}) != c.want || len(l) != map[bool]int{true: 2}[ok] {
			t.Errorf("%d: %t, %s", i, ok, line(l))
		}
	}
}

// someVal is a right value, of any of some kinds.
func someVal(rnd *rand.Rand, types int) api.Value {
	for {
		l := []api.Value{{}, truth(rnd.Int64N(2)), num(rnd.Int64N(3)), num(rnd.Int64() - rnd.Int64()), sym("s" + fmt.Sprint(rnd.IntN(3))), str(strings.Repeat("\u20ac", rnd.IntN(3))), list(), nest(rnd.IntN(4), list(num(rnd.Int64N(3)), api.Value{}))}
		if v := l[rnd.IntN(len(l))]; fits(types, v) {
			return v
		}
	}
}

// someRule is a rule of a name, right as far as its tests and acts go; names and patterns' numbers may be told by another rule.
func someRule(rnd *rand.Rand, name string) api.Rule {
	x := api.Rule{Name: name, Salience: rnd.IntN(201) - 100}
	var bound []int
	for i := range 1 + rnd.IntN(4) {
		p := api.Pat{Tmpl: rnd.IntN(3), Neg: i > 0 && rnd.IntN(3) == 0}
		for range rnd.IntN(7) {
			t := api.Test{Kind: 1 + rnd.IntN(9), Slot: rnd.IntN(len(kinds()[p.Tmpl]))}
			fresh := rnd.IntN(8)
			switch {
			case t.Kind < 5:
				t.Val = someVal(rnd, 63)
			case t.Kind == 5 && !p.Neg && !slices.Contains(bound, fresh):
				t.Var = fresh
				bound = append(bound, fresh)
			case t.Kind > 5 && len(bound) > 0:
				t.Var = bound[rnd.IntN(len(bound))]
			default:
				continue
			}
			p.Tests = append(p.Tests, t)
		}
		x.Pats = append(x.Pats, p)
	}
	expr := func(types int) api.Expr {
		if len(bound) > 0 && rnd.IntN(2) == 0 {
			return variable(bound[rnd.IntN(len(bound))])
		}
		return constant(someVal(rnd, types))
	}
	for range rnd.IntN(5) {
		a := api.Act{Kind: 1 + rnd.IntN(4)}
		pat := rnd.IntN(len(x.Pats))
		if x.Pats[pat].Neg {
			pat = 0
		}
		slots := kinds()[x.Pats[pat].Tmpl]
		switch a.Kind {
		case 1:
			a.Tmpl = rnd.IntN(3)
			for _, types := range kinds()[a.Tmpl] {
				a.Vals = append(a.Vals, expr(types))
			}
		case 2:
			a.Pat = pat
		case 3:
			a.Pat, a.Slot = pat, rnd.IntN(len(slots))
			a.Vals = []api.Expr{expr(slots[a.Slot])}
		}
		x.Acts = append(x.Acts, a)
	}
	return x
}

// some are right rules, many of them the same but for little.
func some() [][]api.Rule {
	rnd := rand.New(rand.NewPCG(17, 3))
	l := [][]api.Rule{nil}
	for range 300 {
		var x []api.Rule
		for _, name := range names(rnd.IntN(9)) {
			x = append(x, someRule(rnd, name))
		}
		l = append(l, x)
		if len(x) == 0 {
			continue
		}
		i := rnd.IntN(len(x))
		other := x[i]
		other.Salience = (other.Salience+101)%201 - 100
		l = append(l, x[1:], slices.Concat(x[1:], x[:1]), slices.Concat(x[:i], []api.Rule{other}, x[i+1:]))
	}
	return l
}

// near are right rules like good, each with one thing turned.
func near() [][]api.Rule {
	var l [][]api.Rule
	for _, turn := range []func(x *api.Rule){
		func(x *api.Rule) {},
		func(x *api.Rule) { x.Name = "R" },
		func(x *api.Rule) { x.Salience = 7 },
		func(x *api.Rule) { x.Pats = x.Pats[:3] },
		func(x *api.Rule) { x.Pats[3].Neg = false },
		func(x *api.Rule) { x.Pats[3].Tmpl = 1 },
		func(x *api.Rule) { x.Pats[3].Tests = []api.Test{{Kind: api.Eq}} },
		func(x *api.Rule) { x.Pats[0].Tests[1].Kind = api.Gt },
		func(x *api.Rule) { x.Pats[0].Tests[1].Slot = 2 },
		func(x *api.Rule) { x.Pats[0].Tests[1].Val.L[1].S = "K" },
		func(x *api.Rule) { x.Pats[0].Tests[2].Kind = api.EqVar },
		func(x *api.Rule) { x.Pats[0].Tests[3].Var, x.Pats[2].Tests[3].Var = 1, 1 },
		func(x *api.Rule) { x.Pats[1].Tests[0].Var = 0 },
		func(x *api.Rule) { x.Pats[1].Tests = x.Pats[1].Tests[:1] },
		func(x *api.Rule) { x.Pats[1].Tests[1].Val.Kind = api.Sym; x.Pats[1].Tests[1].Val.S = "e" },
		func(x *api.Rule) { x.Pats[1], x.Pats[3] = x.Pats[3], x.Pats[1] },
		func(x *api.Rule) { x.Acts = x.Acts[:3] },
		func(x *api.Rule) { x.Acts[3] = x.Acts[2] },
		func(x *api.Rule) { x.Acts[2].Pat = 0 },
		func(x *api.Rule) { x.Acts[1], x.Acts[2] = x.Acts[2], x.Acts[1] },
		func(x *api.Rule) { x.Acts[1].Vals[0] = constant(api.Value{}) },
		func(x *api.Rule) { x.Acts[1].Vals[0] = variable(0) },
		func(x *api.Rule) { x.Acts[0].Vals[0] = variable(4) },
		func(x *api.Rule) { x.Acts[0].Vals[1] = variable(7) },
		func(x *api.Rule) { x.Acts[0].Vals[1] = constant(list()) },
		func(x *api.Rule) { x.Acts[0].Vals[1] = constant(api.Value{}) },
	} {
		x := good("r")
		turn(&x)
		l = append(l, []api.Rule{x}, []api.Rule{x, small("b")}, []api.Rule{small("b"), x})
	}
	return l
}

// TestP173: P17.3, right rules are read again from their bytes, with what stands behind left; they have the same bytes just if they are the same.
func TestP173(t *testing.T) {
	lineOf, bytesOf := map[string]string{}, map[string]string{}
	for _, l := range slices.Concat(some(), near()) {
		isRight(t, l, true)
		puts(t, l, true)
		b := rule.Put(l)
		r := bin.Read(slices.Concat(b, b, []byte{5}))
		for range 2 {
			if got, ok := rule.Read(r, reg()); !ok || line(got) != line(l) {
				t.Errorf("%s: %s, %t", line(l), line(got), ok)
			}
		}
		if r.Left() != 1 || r.Byte() != 5 {
			t.Errorf("%s: what stands behind", line(l))
		}
		text := line(l)
		if was, ok := lineOf[string(b)]; ok && was != text {
			t.Errorf("%x is of %s and of %s", b, was, text)
		}
		if was, ok := bytesOf[text]; ok && was != string(b) {
			t.Errorf("%s: %x and %x", text, was, b)
		}
		lineOf[string(b)], bytesOf[text] = text, string(b)
	}
	if len(lineOf) < 900 || len(lineOf) != len(bytesOf) {
		t.Errorf("%d, %d", len(lineOf), len(bytesOf))
	}
	if n := len(near()); n != 78 {
		t.Error(n)
	}
}

// TestEmpty: rule 3, nil and empty lists are one, wherever they stand.
func TestEmpty(t *testing.T) {
	for _, l := range [][]api.Rule{many(8), {small("a")}, {{}}} {
		text, right := line(l), rule.Right(reg(), l)
		b := rule.Put(l)
		for i := range l {
			if l[i].Pats == nil {
				l[i].Pats = []api.Pat{}
			}
			if l[i].Acts == nil {
				l[i].Acts = []api.Act{}
			}
			for j := range l[i].Pats {
				if l[i].Pats[j].Tests == nil {
					l[i].Pats[j].Tests = []api.Test{}
				}
			}
			for j := range l[i].Acts {
				if l[i].Acts[j].Vals == nil {
					l[i].Acts[j].Vals = []api.Expr{}
				}
			}
			for _, v := range vals(&l[i]) {
				if v.L == nil {
					v.L = []api.Value{}
				}
			}
		}
		if line(l) != text || rule.Right(reg(), l) != right || !bytes.Equal(rule.Put(l), b) {
			t.Errorf("%s: nil and empty lists", text)
		}
	}
}

// TestArguments: rule 4, what is handed in stays as it is, its spare room too, and answers are new memory.
func TestArguments(t *testing.T) {
	spare := api.Rule{Name: "spare"}
	rules := append(make([]api.Rule, 0, 9), many(8)...)
	rules[:9][8] = spare
	rules[0].Pats[1].Tests = append(make([]api.Test, 0, 5), rules[0].Pats[1].Tests...)
	rules[0].Pats[1].Tests[:5][4].Slot = 77
	templates := append(make([]api.Template, 0, 4), reg()...)
	templates[:4][3].Name = "spare"
	text := line(rules[:9])
	if !rule.Right(templates, rules) {
		t.Fatal("right")
	}
	b := rule.Put(rules)
	given := append(make([]byte, 0, len(b)+2), b...)
	given[:len(b)+2][len(b)+1] = 7
	r := bin.Read(given)
	got, ok := rule.Read(r, templates)
	again, _ := rule.Read(bin.Read(b), templates)
	if !ok || line(got) != line(rules) {
		t.Fatal("read")
	}
	rule.Bound(rules[0])
	rule.Slots(templates, 0)
	if line(rules[:9]) != text || rules[0].Pats[1].Tests[:5][4].Slot != 77 || templates[:4][3].Name != "spare" || given[:len(b)+2][len(b)+1] != 7 || !bytes.Equal(given, b) {
		t.Error("what was handed in was changed")
	}
	for i := range given {
		given[i] = 0xff
	}
	for i := range got {
		for _, n := range numbers(&got[i]) {
			*n = 200
		}
		for _, v := range vals(&got[i]) {
			v.L = append(v.L[:0], sym("turned"))
		}
	}
	if line(again) != line(rules) || line(rules[:9]) != text || !bytes.Equal(rule.Put(rules), b) {
		t.Error("an answer shares memory")
	}
	first := rule.Put(rules)
	clear(first[:cap(first)])
	if !bytes.Equal(rule.Put(rules), b) {
		t.Error("bytes share memory")
	}
}
