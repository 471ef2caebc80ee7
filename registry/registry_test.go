package registry_test

import (
	"bytes"
	"encoding/binary"
	"fmt"
	"math"
	"math/rand/v2"
	"reflect"
	"slices"
	"strings"
	"testing"

	"douane/api"
	"douane/bin"
	"douane/registry"
	"douane/schema"
	"douane/value"
)

// The bits of kinds.
const (
	null = 1 << api.Null
	boo  = 1 << api.Bool
	in   = 1 << api.Int
	sy   = 1 << api.Sym
	st   = 1 << api.Str
	li   = 1 << api.List
)

func num(n int64) api.Value         { return api.Value{Kind: api.Int, N: n} }
func str(s string) api.Value        { return api.Value{Kind: api.Str, S: s} }
func sym(s string) api.Value        { return api.Value{Kind: api.Sym, S: s} }
func truth(n int64) api.Value       { return api.Value{Kind: api.Bool, N: n} }
func list(l ...api.Value) api.Value { return api.Value{Kind: api.List, L: l} }

// nest is a value in so many lists.
func nest(n int, v api.Value) api.Value {
	for range n {
		v = list(v)
	}
	return v
}

// wrongValues are values that aren't right, of all kinds, and of none; some far too deep, or with far too many nodes.
func wrongValues() []api.Value {
	wide := list(slices.Repeat([]api.Value{num(1)}, 1000)...)
	l := []api.Value{{N: 1}, {S: "a"}, {L: []api.Value{{}}}, truth(2), truth(-1), {Kind: api.Int, S: "1"}, sym(""), sym("1"), sym(strings.Repeat("z", api.MaxName+1)), str("\xff"), str(strings.Repeat("x", api.MaxStr+1)), {Kind: api.List, N: 1}, list(sym("")), {Kind: 6}, {Kind: -1}, {Kind: math.MaxInt}, {Kind: math.MinInt}}
	l = append(l, list(slices.Repeat([]api.Value{{}}, api.MaxItems+1)...), wide, list(slices.Repeat([]api.Value{wide}, 1000)...))
	for _, n := range []int{5, 10, 11, 100, 1 << 16} {
		l = append(l, nest(n, api.Value{}), nest(n, wide), api.Value{Kind: api.Null, L: []api.Value{nest(n, num(1))}})
	}
	return l
}

// slots are slots of all kinds, Req and not; that of number n takes kind n, and more.
func slots() []api.Slot {
	return []api.Slot{
		{Name: "n", Types: null | st},
		{Name: "b", Types: boo, Req: true, Def: truth(1)},
		{Name: "i", Types: 63, Def: num(-2)},
		{Name: "s", Types: sy | null, Def: sym("Ab")},
		{Name: "t", Types: st, Req: true, Def: str("q\x00\u00e9")},
		{Name: "l", Types: li | in, Def: list(num(1), list(str("")), api.Value{})},
	}
}

// tmpl is a template of a name, with slots of all kinds, and steps of all kinds.
func tmpl(name string) api.Template {
	return api.Template{Name: name, Slots: slots(), Steps: []api.Step{
		{Kind: api.Add, Slot: api.Slot{Name: "new", Types: in | li, Def: list(num(3))}},
		{Kind: api.Lose, Col: 1},
		{Kind: api.Rename, Col: 2, Slot: api.Slot{Name: "re-named"}},
		{Kind: api.Widen, Col: 3, Slot: api.Slot{Types: boo | st}},
		{Kind: api.Reorder, Order: []int{5, 0, 4, 1, 3, 2}},
		{Kind: api.Add, Slot: api.Slot{Name: "b", Types: 63}},
		{Kind: api.Reorder, Order: []int{6, 5, 4, 3, 2, 1, 0}},
	}}
}

// small is a template of one slot, and no steps.
func small(name string) api.Template {
	return api.Template{Name: name, Slots: []api.Slot{{Name: "a", Types: in, Def: num(0)}}}
}

// two is a registry of two templates.
func two() []api.Template { return []api.Template{tmpl("x"), small("Y-2_z")} }

// names are names, no two of them the same, so many.
func names(n int) []string {
	return append([]string{"t", "T", "tt", "t-", strings.Repeat("t", api.MaxName), "Other_1", "seven", "eight"}[:min(n, 8)], slices.Repeat([]string{"more"}, max(n-8, 0))...)
}

// many is a registry of so many templates.
func many(n int) []api.Template {
	var l []api.Template
	for i, s := range names(n) {
		if i%2 == 0 {
			l = append(l, tmpl(s))
		} else {
			l = append(l, small(s))
		}
	}
	return l
}

// wrongTemplates are templates of a name with one thing that isn't right, wherever it stands.
func wrongTemplates(name string) []api.Template {
	var l []api.Template
	spoils := []func(t *api.Template){
		func(t *api.Template) { t.Slots = nil },
		func(t *api.Template) { t.Slots = slices.Repeat(t.Slots, 2) },
		func(t *api.Template) { t.Slots[1].Name = "n" },
		func(t *api.Template) { t.Slots[1].Name = "" },
		func(t *api.Template) { t.Slots[0].Types = 0 },
		func(t *api.Template) { t.Slots[0].Types = 64 | null },
		func(t *api.Template) { t.Slots[0].Types = 256 | null },
		func(t *api.Template) { t.Slots[0].Types = -1 },
		func(t *api.Template) { t.Slots[4].Def = num(1) },
		func(t *api.Template) { t.Steps[0].Slot.Req = true },
		func(t *api.Template) { t.Steps[0].Slot.Name = "n" },
		func(t *api.Template) { t.Steps[0].Slot.Def = api.Value{} },
		func(t *api.Template) { t.Steps[0].Col = 1 },
		func(t *api.Template) { t.Steps[1].Col = 7 },
		func(t *api.Template) { t.Steps[1].Col = -1 },
		func(t *api.Template) { t.Steps[1].Slot.Name = "a" },
		func(t *api.Template) { t.Steps[2].Slot.Name = "t" },
		func(t *api.Template) { t.Steps[2].Slot.Name = "" },
		func(t *api.Template) { t.Steps[3].Slot.Types = 0 },
		func(t *api.Template) { t.Steps[3].Slot.Types = st },
		func(t *api.Template) { t.Steps[3].Slot.Name = "a" },
		func(t *api.Template) { t.Steps[4].Order = t.Steps[4].Order[1:] },
		func(t *api.Template) { t.Steps[4].Order[0] = 0 },
		func(t *api.Template) { t.Steps[4].Order[0] = 6 },
		func(t *api.Template) { t.Steps[4].Order[0] = 256 },
		func(t *api.Template) { t.Steps[4].Kind = 0 },
		func(t *api.Template) { t.Steps[4].Kind = 6 },
		func(t *api.Template) { t.Steps[4].Kind = -1 },
		func(t *api.Template) { t.Steps[4].Kind = 256 + api.Reorder },
		func(t *api.Template) { t.Steps = append(t.Steps, t.Steps[6], t.Steps[6]) },
	}
	for _, v := range wrongValues() {
		spoils = append(spoils, func(t *api.Template) { t.Slots[2].Def = v }, func(t *api.Template) { t.Steps[5].Slot.Def = v }, func(t *api.Template) { t.Steps[1].Slot.Def = v })
	}
	for _, spoil := range spoils {
		t := tmpl(name)
		spoil(&t)
		l = append(l, t)
	}
	return append(l, api.Template{Name: name}, api.Template{Name: name, Steps: tmpl(name).Steps})
}

// nameless are templates whose name isn't right.
func nameless() []api.Template {
	return []api.Template{{}, small(""), small("1"), small("a b"), small("\u00e9"), small("\xff"), small("_"), tmpl(strings.Repeat("t", api.MaxName+1))}
}

// textBytes are a text's bytes, by layer 6's words and the library's numbers.
func textBytes(s string) []byte {
	return append(binary.BigEndian.AppendUint32(nil, uint32(len(s))), s...)
}

// valueBytes are a right value's, likewise.
func valueBytes(v api.Value) []byte {
	b := []byte{byte(v.Kind)}
	switch v.Kind {
	case api.Bool:
		b = append(b, byte(v.N))
	case api.Int:
		b = binary.BigEndian.AppendUint64(b, uint64(v.N))
	case api.Sym, api.Str:
		b = append(b, textBytes(v.S)...)
	case api.List:
		b = binary.BigEndian.AppendUint32(b, uint32(len(v.L)))
		for _, x := range v.L {
			b = append(b, valueBytes(x)...)
		}
	}
	return b
}

// slotBytes are a slot's bytes, by the chapter's words.
func slotBytes(s api.Slot) []byte {
	req := map[bool]byte{true: 1}[s.Req]
	return slices.Concat(textBytes(s.Name), []byte{byte(s.Types), req}, valueBytes(s.Def))
}

// stepBytes are a step's bytes, likewise.
func stepBytes(s api.Step) []byte {
	b := []byte{byte(s.Kind)}
	switch s.Kind {
	case api.Add:
		b = append(b, slotBytes(s.Slot)...)
	case api.Lose, api.Rename, api.Widen:
		b = append(b, byte(s.Col))
	case api.Reorder:
		b = binary.BigEndian.AppendUint32(b, uint32(len(s.Order)))
		for _, n := range s.Order {
			b = append(b, byte(n))
		}
	}
	if s.Kind == api.Rename {
		b = append(b, textBytes(s.Slot.Name)...)
	}
	if s.Kind == api.Widen {
		b = append(b, byte(s.Slot.Types))
	}
	return b
}

// wire are templates' bytes, right or not, likewise.
func wire(l []api.Template) []byte {
	b := binary.BigEndian.AppendUint32(nil, uint32(len(l)))
	for _, t := range l {
		b = append(b, textBytes(t.Name)...)
		b = binary.BigEndian.AppendUint32(b, uint32(len(t.Slots)))
		for _, s := range t.Slots {
			b = append(b, slotBytes(s)...)
		}
		b = binary.BigEndian.AppendUint32(b, uint32(len(t.Steps)))
		for _, s := range t.Steps {
			b = append(b, stepBytes(s)...)
		}
	}
	return b
}

// line is a registry as a text, nil and empty lists as one.
func line(l []api.Template) string {
	slot := func(s api.Slot) string { return fmt.Sprintf("%q %d %t %s", s.Name, s.Types, s.Req, value.Text(s.Def)) }
	s := fmt.Sprint(len(l))
	for _, t := range l {
		s += fmt.Sprintf("; %q", t.Name)
		for _, x := range t.Slots {
			s += ", " + slot(x)
		}
		for _, x := range t.Steps {
			s += fmt.Sprintf(", %d %d %s %v", x.Kind, x.Col, slot(x.Slot), append([]int{}, x.Order...))
		}
	}
	return s
}

// model is how a registry's bytes are read, by the chapter's words: what is left, and whether all was there so far.
type model struct {
	b  []byte
	ok bool
}

// cut is the next so many bytes.
func (m *model) cut(n int) []byte {
	if !m.ok || n > len(m.b) {
		m.ok = false
		return make([]byte, min(n, 8))
	}
	b := m.b[:n]
	m.b = m.b[n:]
	return b
}

func (m *model) byte() int { return int(m.cut(1)[0]) }

func (m *model) num() int {
	n := binary.BigEndian.Uint32(m.cut(4))
	m.ok = m.ok && n <= math.MaxInt32
	return int(n)
}

func (m *model) text() string {
	if n := m.num(); m.ok {
		return string(m.cut(n))
	}
	return ""
}

func (m *model) value() api.Value {
	r := bin.Read(m.b)
	v := r.Value()
	m.ok = m.ok && !r.Bad()
	m.b = m.b[len(m.b)-r.Left():]
	return v
}

func (m *model) slot() api.Slot {
	s := api.Slot{Name: m.text(), Types: m.byte()}
	req := m.byte()
	s.Req, s.Def = req == 1, m.value()
	m.ok = m.ok && (req == 0 || req == 1)
	return s
}

func (m *model) step() api.Step {
	s := api.Step{Kind: m.byte()}
	switch s.Kind {
	case 1:
		s.Slot = m.slot()
	case 2:
		s.Col = m.byte()
	case 3:
		s.Col = m.byte()
		s.Slot.Name = m.text()
	case 4:
		s.Col = m.byte()
		s.Slot.Types = m.byte()
	case 5:
		for n := m.num(); n > 0 && m.ok; n-- {
			s.Order = append(s.Order, m.byte())
		}
	default:
		m.ok = false
	}
	return s
}

// read is the right registry that stands there, and what stands behind it.
func read(b []byte) (l []api.Template, rest []byte, ok bool) {
	m := &model{b, true}
	seen := map[string]bool{}
	for n := m.num(); n > 0 && m.ok; n-- {
		t := api.Template{Name: m.text()}
		for k := m.num(); k > 0 && m.ok; k-- {
			t.Slots = append(t.Slots, m.slot())
		}
		for k := m.num(); k > 0 && m.ok; k-- {
			t.Steps = append(t.Steps, m.step())
		}
		m.ok = m.ok && schema.Right(t) && !seen[t.Name] && len(l) < 6
		seen[t.Name] = true
		l = append(l, t)
	}
	if !m.ok {
		return nil, nil, false
	}
	return l, m.b, true
}

// reads asks Read and Get of bytes: what stands there, and what is left behind it.
func reads(t *testing.T, b []byte) {
	t.Helper()
	want, rest, ok := read(b)
	r := bin.Read(b)
	got, there := registry.Read(r)
	if there != ok || line(got) != line(want) || !ok && got != nil {
		t.Errorf("Read %x: %s, %t, not %s, %t", b, line(got), there, line(want), ok)
	}
	if ok && (r.Bad() || r.Left() != len(rest)) {
		t.Errorf("Read %x: %d left, not %d", b, r.Left(), len(rest))
	}
	all, whole := registry.Get(b)
	if len(rest) > 0 {
		want, ok = nil, false
	}
	if whole != ok || line(all) != line(want) || !ok && all != nil {
		t.Errorf("Get %x: %s, %t, not %s, %t", b, line(all), whole, line(want), ok)
	}
}

// isRight asks Right, and that Put answers bytes of a right one alone.
func isRight(t *testing.T, l []api.Template, want bool) {
	t.Helper()
	if got := registry.Right(l); got != want {
		t.Errorf("Right of %d templates: %t", len(l), got)
	}
	if b := registry.Put(l); (len(b) > 0) != want || want && !bytes.Equal(b, wire(l)) {
		t.Errorf("Put of %d templates: %x", len(l), b)
	}
}

// TestP131Right: P13.1 and P13.2, how many templates, and names of which one is there twice.
func TestP131Right(t *testing.T) {
	isRight(t, nil, true)
	isRight(t, []api.Template{}, true)
	for n := range 9 {
		isRight(t, many(n), n <= 6)
	}
	isRight(t, slices.Repeat(many(2), 500), false)
	for i := range 6 {
		for j := range i {
			l := many(6)
			l[i].Name = l[j].Name
			isRight(t, l, false)
			isRight(t, []api.Template{l[i], l[j]}, false)
		}
	}
	isRight(t, []api.Template{small("a"), small("b"), tmpl("a")}, false)
	isRight(t, []api.Template{small("a"), small("A"), small("aa"), small("a-"), small("n")}, true)
}

// TestP131RightEach: P13.1 and P13.2, a template that isn't right, at each place, alone and beside others.
func TestP131RightEach(t *testing.T) {
	for _, x := range slices.Concat(wrongTemplates("t"), nameless()) {
		if len(bin.Value(defOf(x))) > 0 && schema.Right(x) {
			t.Fatalf("%s is right", line([]api.Template{x}))
		}
		isRight(t, []api.Template{x}, false)
		for n := range 6 {
			l := many(6)
			l[n] = x
			if x.Name == "t" {
				l[n].Name = names(6)[n]
			}
			isRight(t, l, false)
		}
	}
}

// defOf is a Def of a template that isn't right; of those that layer 10 speaks of it is a right value, too.
func defOf(x api.Template) api.Value {
	for _, s := range x.Slots {
		if !value.Right(s.Def) {
			return s.Def
		}
	}
	for _, s := range x.Steps {
		if !value.Right(s.Slot.Def) {
			return s.Slot.Def
		}
	}
	return api.Value{}
}

// TestP131Find: P13.1, the first template of each name, and none; in registries that aren't right, too.
func TestP131Find(t *testing.T) {
	for n := range 9 {
		for i, s := range names(8) {
			want := i
			if i >= n {
				want = -1
			}
			if got := registry.Find(many(n), s); got != want {
				t.Errorf("%d templates, %q: %d", n, s, got)
			}
		}
	}
	l := []api.Template{small("a"), {Name: "b"}, tmpl("a"), {}, small("b"), small("\xff"), {Name: strings.Repeat("n", 1000)}, small("c"), small("c"), {Name: "d", Slots: []api.Slot{{Def: nest(1<<16, num(1))}}}}
	for name, want := range map[string]int{"a": 0, "b": 1, "": 3, "\xff": 5, strings.Repeat("n", 1000): 6, "c": 7, "d": 9, "e": -1, "A": -1, "aa": -1, "a ": -1, "\xfe": -1, strings.Repeat("n", 999): -1} {
		if got := registry.Find(l, name); got != want {
			t.Errorf("%q: %d, not %d", name, got, want)
		}
	}
	for _, name := range []string{"", "a", "x"} {
		if registry.Find(nil, name) != -1 || registry.Find([]api.Template{}, name) != -1 {
			t.Errorf("%q of none", name)
		}
	}
}

// twists are registries like two, each with another thing turned, right or not.
func twists() [][]api.Template {
	var l [][]api.Template
	for _, turn := range []func(x *api.Template){
		func(x *api.Template) {},
		func(x *api.Template) { x.Name = "X" },
		func(x *api.Template) { x.Name = "x2" },
		func(x *api.Template) { x.Slots[0].Name = "m" },
		func(x *api.Template) { x.Slots[5].Name = "L" },
		func(x *api.Template) { x.Slots[0].Types |= 64 },
		func(x *api.Template) { x.Slots[5].Types = li },
		func(x *api.Template) { x.Slots[1].Req = false },
		func(x *api.Template) { x.Slots[0].Req = true },
		func(x *api.Template) { x.Slots[2].Def = num(2) },
		func(x *api.Template) { x.Slots[2].Def = truth(0) },
		func(x *api.Template) { x.Slots[3].Def = sym("AB") },
		func(x *api.Template) { x.Slots[4].Def.Kind = api.Sym },
		func(x *api.Template) { x.Slots[4].Def.N = 1 },
		func(x *api.Template) { x.Slots[4].Def.L = []api.Value{{}} },
		func(x *api.Template) { x.Slots[5].Def.L[2].N = 1 },
		func(x *api.Template) { x.Slots[5].Def.L[1].L[0].S = "a" },
		func(x *api.Template) { x.Slots[5].Def.L = x.Slots[5].Def.L[:2] },
		func(x *api.Template) { x.Slots[0], x.Slots[1] = x.Slots[1], x.Slots[0] },
		func(x *api.Template) { x.Slots = x.Slots[:5] },
		func(x *api.Template) { x.Slots = x.Slots[1:] },
		func(x *api.Template) { x.Slots = append(x.Slots, api.Slot{}) },
		func(x *api.Template) { x.Slots = nil },
		func(x *api.Template) { x.Steps = nil },
		func(x *api.Template) { x.Steps = x.Steps[:6] },
		func(x *api.Template) { x.Steps = x.Steps[1:] },
		func(x *api.Template) { x.Steps = append(x.Steps, api.Step{}) },
		func(x *api.Template) { x.Steps[4], x.Steps[5] = x.Steps[5], x.Steps[4] },
		func(x *api.Template) { x.Steps[0].Slot.Name = "old" },
		func(x *api.Template) { x.Steps[0].Slot.Types = li },
		func(x *api.Template) { x.Steps[0].Slot.Req = true },
		func(x *api.Template) { x.Steps[0].Slot.Def = list(num(4)) },
		func(x *api.Template) { x.Steps[0].Col = 1 },
		func(x *api.Template) { x.Steps[0].Order = []int{0} },
		func(x *api.Template) { x.Steps[1].Col = 0 },
		func(x *api.Template) { x.Steps[1].Kind = api.Rename },
		func(x *api.Template) { x.Steps[1].Slot.Types = 1 },
		func(x *api.Template) { x.Steps[1].Slot.Req = true },
		func(x *api.Template) { x.Steps[1].Slot.Def.N = 1 },
		func(x *api.Template) { x.Steps[2].Col = 1 },
		func(x *api.Template) { x.Steps[2].Slot.Name = "Re-named" },
		func(x *api.Template) { x.Steps[3].Col = 1 },
		func(x *api.Template) { x.Steps[3].Slot.Types = boo },
		func(x *api.Template) { x.Steps[4].Order[0], x.Steps[4].Order[1] = 0, 5 },
		func(x *api.Template) { x.Steps[4].Order = x.Steps[4].Order[:5] },
		func(x *api.Template) { x.Steps[4].Order = nil },
		func(x *api.Template) { x.Steps[6].Order[6] = -1 },
		func(x *api.Template) { x.Steps[6].Kind = 0 },
		func(x *api.Template) { *x = api.Template{} },
	} {
		y := two()
		turn(&y[0])
		l = append(l, y)
	}
	x, y := two()[0], two()[1]
	deep, deeper, other := small("d"), small("d"), small("d")
	deep.Slots[0].Def, deeper.Slots[0].Def, other.Slots[0].Def = nest(1<<16, num(1)), nest(1<<16+1, num(1)), nest(1<<16, num(2))
	return append(l, nil, []api.Template{x}, []api.Template{y}, []api.Template{y, x}, []api.Template{x, x}, []api.Template{x, y, x}, slices.Repeat([]api.Template{x, y}, 4), []api.Template{deep}, []api.Template{deeper}, []api.Template{other})
}

// TestP131Same: P13.1, every two of registries that differ in one thing or more, right or not.
func TestP131Same(t *testing.T) {
	again := twists()
	for i, x := range twists() {
		for j, y := range again {
			if registry.Same(x, y) != (i == j) {
				t.Errorf("%d, %d: not %t", i, j, i == j)
			}
		}
	}
}

// TestP131SameEmpty: P13.1, nil and empty lists are the same, wherever they stand.
func TestP131SameEmpty(t *testing.T) {
	if !registry.Same(nil, []api.Template{}) || !registry.Same([]api.Template{}, nil) {
		t.Error("registries")
	}
	empty := func(l []api.Template) []api.Template {
		for i := range l {
			if l[i].Slots == nil {
				l[i].Slots = []api.Slot{}
			}
			if l[i].Steps == nil {
				l[i].Steps = []api.Step{}
			}
			for j := range l[i].Slots {
				if l[i].Slots[j].Def.L == nil {
					l[i].Slots[j].Def.L = []api.Value{}
				}
			}
			for j := range l[i].Steps {
				if l[i].Steps[j].Order == nil {
					l[i].Steps[j].Order = []int{}
				}
				if l[i].Steps[j].Slot.Def.L == nil {
					l[i].Steps[j].Slot.Def.L = []api.Value{}
				}
			}
		}
		return l
	}
	for i, x := range twists() {
		y := empty(twists()[i])
		if !registry.Same(x, y) || !registry.Same(y, x) {
			t.Errorf("%d: nil and empty lists", i)
		}
		if registry.Right(x) != registry.Right(y) || !bytes.Equal(registry.Put(x), registry.Put(y)) {
			t.Errorf("%d: nil and empty lists, as bytes", i)
		}
	}
}

// TestP132Written: P13.2, bytes written out, put and read.
func TestP132Written(t *testing.T) {
	one := func(x api.Template) []api.Template { return []api.Template{x} }
	with := func(steps ...api.Step) []api.Template {
		x := api.Template{Name: "t", Slots: []api.Slot{{Name: "a", Types: 1}, {Name: "b", Types: 63, Req: true, Def: truth(1)}}, Steps: steps}
		return one(x)
	}
	const head = "\x00\x00\x00\x01\x00\x00\x00\x01t\x00\x00\x00\x02\x00\x00\x00\x01a\x01\x00\x00\x00\x00\x00\x01b\x3f\x01\x01\x01"
	for _, c := range []struct {
		l    []api.Template
		want string
	}{
		{nil, "\x00\x00\x00\x00"},
		{[]api.Template{}, "\x00\x00\x00\x00"},
		{one(small("ab")), "\x00\x00\x00\x01\x00\x00\x00\x02ab\x00\x00\x00\x01\x00\x00\x00\x01a\x04\x00\x02\x00\x00\x00\x00\x00\x00\x00\x00\x00\x00\x00\x00"},
		{[]api.Template{small("b"), small("a")}, "\x00\x00\x00\x02\x00\x00\x00\x01b\x00\x00\x00\x01\x00\x00\x00\x01a\x04\x00\x02\x00\x00\x00\x00\x00\x00\x00\x00\x00\x00\x00\x00\x00\x00\x00\x01a\x00\x00\x00\x01\x00\x00\x00\x01a\x04\x00\x02\x00\x00\x00\x00\x00\x00\x00\x00\x00\x00\x00\x00"},
		{with(), head + "\x00\x00\x00\x00"},
		{with(api.Step{Kind: api.Add, Slot: api.Slot{Name: "cd", Types: 9, Def: sym("x")}}), head + "\x00\x00\x00\x01\x01\x00\x00\x00\x02cd\x09\x00\x03\x00\x00\x00\x01x"},
		{with(api.Step{Kind: api.Lose, Col: 1}), head + "\x00\x00\x00\x01\x02\x01"},
		{with(api.Step{Kind: api.Lose}), head + "\x00\x00\x00\x01\x02\x00"},
		{with(api.Step{Kind: api.Rename, Col: 1, Slot: api.Slot{Name: "cd"}}), head + "\x00\x00\x00\x01\x03\x01\x00\x00\x00\x02cd"},
		{with(api.Step{Kind: api.Widen, Slot: api.Slot{Types: 48}}), head + "\x00\x00\x00\x01\x04\x00\x30"},
		{with(api.Step{Kind: api.Reorder, Order: []int{1, 0}}), head + "\x00\x00\x00\x01\x05\x00\x00\x00\x02\x01\x00"},
		{with(api.Step{Kind: api.Reorder, Order: []int{1, 0}}, api.Step{Kind: api.Lose}, api.Step{Kind: api.Reorder, Order: []int{0}}), head + "\x00\x00\x00\x03\x05\x00\x00\x00\x02\x01\x00\x02\x00\x05\x00\x00\x00\x01\x00"},
	} {
		if b := registry.Put(c.l); string(b) != c.want {
			t.Errorf("Put %s: %x, not %x", line(c.l), b, c.want)
		}
		if l, ok := registry.Get([]byte(c.want)); !ok || line(l) != line(c.l) {
			t.Errorf("Get %x: %s, %t", c.want, line(l), ok)
		}
		r := bin.Read([]byte(c.want + "\x07"))
		if l, ok := registry.Read(r); !ok || line(l) != line(c.l) || r.Byte() != 7 || !r.Done() {
			t.Errorf("Read %x: %s, %t", c.want, line(l), ok)
		}
	}
}

// TestP132Steps: P13.2, each kind of step has just what it tells, whatever it is of right ones; what another kind tells is none of its bytes.
func TestP132Steps(t *testing.T) {
	columns := []string{"a", "b", "c", "d", "e", "f", "g", "h"}
	x := api.Template{Name: "t"}
	for _, s := range columns {
		x.Slots = append(x.Slots, api.Slot{Name: s, Types: in, Def: num(0)})
	}
	steps := []api.Step{{Kind: api.Reorder, Order: []int{7, 6, 5, 4, 3, 2, 1, 0}}, {Kind: api.Reorder, Order: []int{1, 2, 3, 4, 5, 6, 7, 0}}}
	for col := range columns {
		steps = append(steps, api.Step{Kind: api.Lose, Col: col})
		for _, s := range []string{"z", "a0", strings.Repeat("n", api.MaxName)} {
			steps = append(steps, api.Step{Kind: api.Rename, Col: col, Slot: api.Slot{Name: s}})
		}
		for types := 1; types <= 63; types++ {
			if types != in {
				steps = append(steps, api.Step{Kind: api.Widen, Col: col, Slot: api.Slot{Types: types}})
			}
		}
	}
	for _, s := range steps {
		x.Steps = []api.Step{s}
		l := []api.Template{x, small("behind")}
		isRight(t, l, true)
		reads(t, wire(l))
	}
}

// TestP132Counts: P13.2, lists of more than there may be, whether what they tell stands there or not.
func TestP132Counts(t *testing.T) {
	for n := range 9 {
		l := many(n)
		reads(t, wire(l))
		if _, ok := registry.Get(wire(l)); ok != (n <= 6) {
			t.Errorf("%d templates: %t", n, ok)
		}
		l = many(1)
		l[0].Slots, l[0].Steps = nil, nil
		for _, s := range []string{"a", "b", "c", "d", "e", "f", "g", "h", "i"}[:n+1] {
			l[0].Slots = append(l[0].Slots, api.Slot{Name: s, Types: 1})
		}
		order := []int{8, 7, 6, 5, 4, 3, 2, 1, 0}[8-n:]
		for steps := range 10 {
			l[0].Steps = slices.Repeat([]api.Step{{Kind: api.Reorder, Order: order}}, steps)
			reads(t, wire(l))
			if _, ok := registry.Get(wire(l)); ok != (n+1 <= 8 && steps <= 8) {
				t.Errorf("%d slots, %d steps: %t", n+1, steps, ok)
			}
		}
	}
	b := wire(two())
	at := []int{0, 9, bytes.Index(b, []byte("\x00\x00\x00\x07\x01")), bytes.Index(b, []byte("\x00\x00\x00\x06\x05\x00")), bytes.Index(b, []byte("\x00\x00\x00\x07\x06"))}
	for _, i := range at {
		for _, n := range []uint32{0, 1, 5, 6, 7, 8, 9, 21, 255, 256, 65536, 1 << 24, 1<<31 - 1, 1 << 31, 1<<32 - 1} {
			c := slices.Clone(b)
			binary.BigEndian.PutUint32(c[i:], n)
			reads(t, c)
			reads(t, append(c, bytes.Repeat([]byte{2, 0}, 5000)...))
		}
	}
	reads(t, append([]byte{0x7f, 0xff, 0xff, 0xff}, make([]byte, 1<<20)...))
}

// TestP132Bytes: P13.2, a registry's bytes with each of them turned to all others, away, doubled, or the end there.
func TestP132Bytes(t *testing.T) {
	b := wire(two())
	reads(t, b)
	for i := range b {
		reads(t, b[:i])
		reads(t, slices.Concat(b[:i], b[i+1:]))
		reads(t, slices.Concat(b[:i+1], b[i:]))
		for x := range 256 {
			c := slices.Clone(b)
			c[i] = byte(x)
			reads(t, c)
		}
		if _, ok := registry.Get(b[:i]); ok {
			t.Errorf("the end ahead of byte %d", i)
		}
	}
	for x := range 256 {
		reads(t, append(slices.Clone(b), byte(x)))
	}
	reads(t, append(slices.Clone(b), b...))
}

// TestP132Req: P13.2, the byte for Req is 0 or 1, of a slot and of a step's slot.
func TestP132Req(t *testing.T) {
	b := wire([]api.Template{{Name: "t", Slots: []api.Slot{{Name: "a", Types: 1, Req: true}}, Steps: []api.Step{{Kind: api.Add, Slot: api.Slot{Name: "b", Types: 1}}}}})
	for x := range 256 {
		slot, step := slices.Clone(b), slices.Clone(b)
		slot[19], step[len(b)-2] = byte(x), byte(x)
		l, ok := registry.Get(slot)
		if ok != (x <= 1) || ok && l[0].Slots[0].Req != (x == 1) {
			t.Errorf("a slot, %d: %t", x, ok)
		}
		if _, ok := registry.Get(step); ok != (x == 0) {
			t.Errorf("a step's slot, %d: %t", x, ok)
		}
	}
}

// TestP132Wrong: P13.2, bytes of registries that aren't right.
func TestP132Wrong(t *testing.T) {
	for _, x := range slices.Concat(wrongTemplates("t"), nameless()) {
		// Far too deep values have no bytes, and neither has what isn't told.
		if v := defOf(x); value.Deep(v) > 100 || value.Nodes(v) > 1000 {
			continue
		}
		reads(t, wire([]api.Template{x}))
		reads(t, wire([]api.Template{small("a"), x, small("b")}))
	}
	for i := range 6 {
		for j := range i {
			l := many(6)
			l[i].Name = l[j].Name
			reads(t, wire(l))
			if got, ok := registry.Get(wire(l)); ok || got != nil {
				t.Errorf("the names %d and %d are the same", i, j)
			}
		}
	}
}

// TestP132Reader: P13.2, readers that are none, bad, empty, or stand within bytes; several registries one behind the other.
func TestP132Reader(t *testing.T) {
	bad := bin.Read(wire(two())[:2])
	bad.Num()
	for i, r := range []*bin.Reader{nil, bad, bin.Read(nil), bin.Read([]byte{}), bin.Read([]byte{0, 0, 0})} {
		if l, ok := registry.Read(r); ok || l != nil {
			t.Errorf("%d: %s, %t", i, line(l), ok)
		}
	}
	for _, b := range [][]byte{nil, {}, {0}} {
		if l, ok := registry.Get(b); ok || l != nil {
			t.Errorf("%x: %s, %t", b, line(l), ok)
		}
	}
	r := bin.Read(slices.Concat([]byte{9}, wire(two()), wire(nil), wire(many(6)), []byte{1, 0, 0, 0, 1, 2}))
	r.Byte()
	for i, want := range [][]api.Template{two(), nil, many(6)} {
		if l, ok := registry.Read(r); !ok || line(l) != line(want) || r.Bad() {
			t.Errorf("%d: %s, %t", i, line(l), ok)
		}
	}
	if r.Left() != 6 || r.Byte() != 1 || r.Num() != 1 || r.Byte() != 2 || !r.Done() {
		t.Error("what stands behind")
	}
}

// someSlot is a right slot of a name, of any kinds.
func someSlot(rnd *rand.Rand, name string) api.Slot {
	defs := []api.Value{{}, truth(rnd.Int64N(2)), num(rnd.Int64() - rnd.Int64()), sym("s" + fmt.Sprint(rnd.IntN(3))), str(strings.Repeat("\u20ac", rnd.IntN(5))), nest(rnd.IntN(4), list(num(rnd.Int64N(3)), api.Value{}))}
	def := defs[rnd.IntN(len(defs))]
	return api.Slot{Name: name, Types: 1<<def.Kind | rnd.IntN(64), Def: def}
}

// someTemplate is a right template of a name.
func someTemplate(rnd *rand.Rand, name string) api.Template {
	x := api.Template{Name: name}
	letters := []string{"a", "b", "c", "d", "e", "f", "g", "h", "aa", "A"}
	for _, s := range letters[:1+rnd.IntN(8)] {
		x.Slots = append(x.Slots, someSlot(rnd, s))
		x.Slots[len(x.Slots)-1].Req = rnd.IntN(2) == 0
	}
	for range rnd.IntN(20) {
		v, _ := schema.At(x, schema.Last(x))
		col, name := rnd.IntN(8), letters[rnd.IntN(len(letters))]
		step := []api.Step{
			{Kind: api.Add, Slot: someSlot(rnd, name)},
			{Kind: api.Lose, Col: col},
			{Kind: api.Rename, Col: col, Slot: api.Slot{Name: name}},
			{Kind: api.Widen, Col: col, Slot: api.Slot{Types: 1 + rnd.IntN(63)}},
			{Kind: api.Reorder, Order: rnd.Perm(len(v.Cols))},
		}[rnd.IntN(5)]
		y := x
		y.Steps = append(slices.Clone(x.Steps), step)
		if schema.Right(y) {
			x = y
		}
	}
	return x
}

// some are right registries, many of them the same but for little.
func some() [][]api.Template {
	rnd := rand.New(rand.NewPCG(13, 3))
	var l [][]api.Template
	for range 150 {
		var x []api.Template
		for _, name := range names(rnd.IntN(7)) {
			x = append(x, someTemplate(rnd, name))
		}
		l = append(l, x)
		if len(x) > 0 {
			y := slices.Clone(x)
			i := rnd.IntN(len(y))
			y[i] = someTemplate(rnd, y[i].Name)
			l = append(l, y, x[1:], slices.Concat(x[1:], x[:1]))
		}
	}
	for _, x := range twists() {
		if registry.Right(x) {
			l = append(l, x)
		}
	}
	return l
}

// TestP133Again: P13.3, what is put is read again, what stands behind it left.
func TestP133Again(t *testing.T) {
	for _, x := range some() {
		b := registry.Put(x)
		if !bytes.Equal(b, wire(x)) {
			t.Fatalf("%s: %x", line(x), b)
		}
		l, ok := registry.Get(b)
		if !ok || !registry.Same(l, x) || line(l) != line(x) || !bytes.Equal(registry.Put(l), b) {
			t.Errorf("Get %s: %s, %t", line(x), line(l), ok)
		}
		r := bin.Read(slices.Concat(b, b))
		first, ok := registry.Read(r)
		left := r.Left()
		second, again := registry.Read(r)
		if !ok || !again || left != len(b) || !r.Done() || !registry.Same(first, x) || !registry.Same(second, x) {
			t.Errorf("Read %s: %s, %t, %s, %t", line(x), line(first), ok, line(second), again)
		}
	}
}

// TestP133Same: P13.3, of every two right registries: the same bytes just if they are the same.
func TestP133Same(t *testing.T) {
	l := some()
	put, told := map[int]string{}, map[int]string{}
	for i, x := range l {
		put[i], told[i] = string(registry.Put(x)), line(x)
	}
	equal := 0
	for i, x := range l {
		for j, y := range l {
			same := told[i] == told[j]
			if registry.Same(x, y) != same || (put[i] == put[j]) != same {
				t.Errorf("%s and %s: not %t", told[i], told[j], same)
			}
			if same && i != j {
				equal++
			}
		}
	}
	if equal < 10 || len(l) < 400 {
		t.Errorf("%d registries, %d times the same", len(l), equal)
	}
}

// TestP133Read: P13.3, whatever bytes are read are those that are put of it.
func TestP133Read(t *testing.T) {
	rnd := rand.New(rand.NewPCG(13, 33))
	right := 0
	for _, x := range some() {
		b := wire(x)
		for range 30 {
			c := slices.Clone(b)
			for range 1 + rnd.IntN(2) {
				c[rnd.IntN(len(c))] = byte(rnd.IntN(8))
			}
			reads(t, c)
			if l, ok := registry.Get(c); ok {
				right++
				if !bytes.Equal(registry.Put(l), c) {
					t.Errorf("%x: %x", c, registry.Put(l))
				}
			}
		}
	}
	if right < 1000 {
		t.Errorf("just %d were right", right)
	}
}

// roomy is a list with spare room, written full.
func roomy[T any](fill T, l []T) []T {
	l = append(make([]T, 0, len(l)+3), l...)
	for i := range l[len(l):cap(l)] {
		l[len(l):cap(l)][i] = fill
	}
	return l
}

// roomyValue is a value whose lists have spare room.
func roomyValue(v api.Value) api.Value {
	for i := range v.L {
		v.L[i] = roomyValue(v.L[i])
	}
	v.L = roomy(num(9), v.L)
	return v
}

// roomyTwo is two, all of whose lists have spare room.
func roomyTwo() []api.Template {
	l := two()
	for i := range l {
		for j := range l[i].Slots {
			l[i].Slots[j].Def = roomyValue(l[i].Slots[j].Def)
		}
		for j := range l[i].Steps {
			l[i].Steps[j].Slot.Def = roomyValue(l[i].Steps[j].Slot.Def)
			l[i].Steps[j].Order = roomy(9, l[i].Steps[j].Order)
		}
		l[i].Slots, l[i].Steps = roomy(api.Slot{Name: "spare"}, l[i].Slots), roomy(api.Step{Kind: 9}, l[i].Steps)
	}
	return roomy(small("spare"), l)
}

// whole tells anything, and all that lists in it have spare room for.
func whole(x reflect.Value) string {
	s := ""
	switch x.Kind() {
	case reflect.Slice:
		s = fmt.Sprintf("%d of %d: ", x.Len(), x.Cap())
		for i := range x.Cap() {
			s += whole(x.Slice(0, x.Cap()).Index(i)) + ","
		}
	case reflect.Struct:
		for i := range x.NumField() {
			s += whole(x.Field(i)) + ";"
		}
	default:
		s = fmt.Sprint(x)
	}
	return "(" + s + ")"
}

// wipe writes over all that lists in a thing have, and have spare room for.
func wipe(x reflect.Value) {
	switch x.Kind() {
	case reflect.Slice:
		x = x.Slice(0, x.Cap())
		for i := range x.Len() {
			wipe(x.Index(i))
			x.Index(i).SetZero()
		}
	case reflect.Struct:
		for i := range x.NumField() {
			wipe(x.Field(i))
		}
	}
}

// TestP13Kept: P13.1 and P13.2, what is handed in stays as it is, its spare room too.
func TestP13Kept(t *testing.T) {
	x, b := roomyTwo(), roomy(7, wire(two()))
	tell := func() string { return whole(reflect.ValueOf(x)) + whole(reflect.ValueOf(b)) }
	want := tell()
	if !registry.Right(x) || registry.Find(x, "spare") != -1 || registry.Find(x, "x") != 0 || !registry.Same(x, two()) || !registry.Same(two(), x) || !bytes.Equal(registry.Put(x), b) {
		t.Error("spare room counts")
	}
	if _, ok := registry.Get(b); !ok {
		t.Error("Get")
	}
	if _, ok := registry.Read(bin.Read(b)); !ok {
		t.Error("Read")
	}
	if got := tell(); got != want {
		t.Errorf("%s, not %s", got, want)
	}
}

// TestP13New: P13.1 and P13.2, an answer is new memory, its spare room too, and shares none with what was handed in or another answer.
func TestP13New(t *testing.T) {
	x, b := roomyTwo(), roomy(7, wire(two()))
	tell := func() string { return whole(reflect.ValueOf(x)) + whole(reflect.ValueOf(b)) }
	want := tell()
	r := bin.Read(slices.Concat(b, b, b))
	for i, answer := range []func() reflect.Value{
		func() reflect.Value { return reflect.ValueOf(registry.Put(x)) },
		func() reflect.Value { l, _ := registry.Get(b); return reflect.ValueOf(l) },
		func() reflect.Value { l, _ := registry.Read(r); return reflect.ValueOf(l) },
	} {
		first, second := answer(), answer()
		told := whole(second)
		if second.Len() < 2 || whole(first) != told {
			t.Fatalf("%d: %s, %s", i, whole(first), told)
		}
		wipe(first)
		third := answer()
		if tell() != want || whole(second) != told || whole(third) != told {
			t.Errorf("%d: an answer that was written changed others, or what was handed in", i)
		}
	}
	l, _ := registry.Get(b)
	put := registry.Put(x)
	wipe(reflect.ValueOf(x))
	wipe(reflect.ValueOf(b))
	if line(l) != line(two()) || !bytes.Equal(put, wire(two())) {
		t.Error("it was kept")
	}
}

// TestP13Lists: P13.2, no two lists of one answer share memory.
func TestP13Lists(t *testing.T) {
	x := []api.Template{tmpl("a"), tmpl("b"), tmpl("c")}
	l, _ := registry.Get(wire(x))
	wipe(reflect.ValueOf(l[1].Slots))
	wipe(reflect.ValueOf(l[1].Steps))
	if len(l) != 3 || line(l[:1]) != line(x[:1]) || line(l[2:]) != line(x[2:]) {
		t.Error("templates share memory")
	}
	for i := range l[0].Steps {
		wipe(reflect.ValueOf(l[0].Steps[i].Order))
		wipe(reflect.ValueOf(l[0].Steps[i].Slot.Def.L))
		x[0].Steps[i].Order = make([]int, len(x[0].Steps[i].Order))
		x[0].Steps[i].Slot.Def.L = make([]api.Value, len(x[0].Steps[i].Slot.Def.L))
		if line(l[:1]) != line(x[:1]) {
			t.Errorf("step %d shares memory", i)
		}
	}
}
