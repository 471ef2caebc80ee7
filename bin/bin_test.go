package bin_test

import (
	"bytes"
	"encoding/binary"
	"math"
	"slices"
	"strings"
	"testing"
	"unicode/utf8"

	"douane/api"
	"douane/bin"
	"douane/value"
)

func truth(n int64) api.Value       { return api.Value{Kind: api.Bool, N: n} }
func num(n int64) api.Value         { return api.Value{Kind: api.Int, N: n} }
func sym(s string) api.Value        { return api.Value{Kind: api.Sym, S: s} }
func str(s string) api.Value        { return api.Value{Kind: api.Str, S: s} }
func list(l ...api.Value) api.Value { return api.Value{Kind: api.List, L: l} }

// times is a value, so often.
func times(n int, v api.Value) []api.Value { return slices.Repeat([]api.Value{v}, n) }

// nest is a value in so many lists.
func nest(n int, v api.Value) api.Value {
	for range n {
		v = list(v)
	}
	return v
}

// same says whether two values are, thing by thing.
func same(a, b api.Value) bool {
	return a.Kind == b.Kind && a.N == b.N && a.S == b.S && slices.EqualFunc(a.L, b.L, same)
}

// isNull says whether a value is a zero one.
func isNull(v api.Value) bool { return same(v, api.Value{}) }

func longs() []int64 {
	l := []int64{0, 1, -1, 2, -2, 127, 128, 255, 256, -128, -256, 0x0102030405060708, -0x0102030405060708, math.MaxInt32, math.MinInt32, math.MaxInt64, math.MaxInt64 - 1, math.MinInt64, math.MinInt64 + 1}
	for i := range 63 {
		l = append(l, 1<<i, -(1 << i), 1<<i-1, 0x55<<i)
	}
	slices.Sort(l)
	return slices.Compact(l)
}

func texts() []string {
	return []string{"", "a", "ab", "b", "\x00", "\xff", "a\x00", "\x00\x00\x00\x01", "\u00e9", "\u20ac", "\U0001f600", "\xed\xa0\x80", "null", strings.Repeat("a", 200), strings.Repeat("a", 201), strings.Repeat("\xfe\x00", 150), strings.Repeat("long", 20000)}
}

// right are values that are, no two of them the same.
func right() []api.Value {
	l := []api.Value{{}, truth(0), truth(1)}
	for _, n := range longs() {
		l = append(l, num(n))
	}
	for _, s := range []string{"a", "Z", "ab", "a1_-", "null", strings.Repeat("n", 39), strings.Repeat("n", 40)} {
		l = append(l, sym(s))
	}
	for _, s := range texts() {
		if len(s) <= 200 && utf8.ValidString(s) {
			l = append(l, str(s))
		}
	}
	l = append(l, str(strings.Repeat("\u00e9", 100)), str(strings.Repeat("\u20ac", 66)+"ab"))
	for _, v := range slices.Clone(l) {
		l = append(l, list(v), list(num(1), v), nest(3, v), list(list(v, v), v))
	}
	return append(l, list(), list(list()), nest(3, list()), list(nest(2, list()), nest(3, str("deep")), sym("z")), list(times(20, num(7))...), list(times(20, str(strings.Repeat("s", 200)))...),
		list(times(20, list(times(3, api.Value{})...))...), list(append(times(19, list(times(4, truth(1))...)), list(num(1), num(1), num(1)))...)) // 81, 100 nodes
}

// wrong are values that aren't right, of all kinds; whole says whether those too whose fault bytes could not say.
func wrong(whole bool) []api.Value {
	l := []api.Value{
		truth(2), truth(255), sym(""), sym("1a"), sym("a b"), sym("_"), sym("\u00e9"), sym("a\x00"), sym(strings.Repeat("a", 41)), sym(strings.Repeat("a", 256)),
		str("\xff"), str("a\xc3"), str("\xc0\x80"), str("\xed\xa0\x80"), str(strings.Repeat("a", 201)), str(strings.Repeat("\u00e9", 101)), str(strings.Repeat("a", 70000)),
		list(times(21, num(1))...), list(times(100, api.Value{})...), nest(5, num(1)), nest(4, list()), nest(10, api.Value{}), list(num(1), nest(4, num(1)), num(2)),
		list(times(20, list(times(4, num(1))...))...), list(append(times(19, list(times(4, num(1))...)), list(times(5, num(1))...))...), list(times(20, list(times(20, list(times(20, num(1))...))...))...), // 101, 102, 8421 nodes
	}
	if whole {
		l = append(l, truth(-1), truth(256), truth(257), truth(math.MinInt64), api.Value{N: 1}, api.Value{S: "a"}, api.Value{L: times(1, num(1))}, api.Value{Kind: api.Bool, N: 1, S: "a"}, api.Value{Kind: api.Bool, L: times(1, api.Value{})},
			api.Value{Kind: api.Int, N: 1, S: "1"}, api.Value{Kind: api.Int, L: times(1, api.Value{})}, api.Value{Kind: api.Sym, S: "a", N: 1}, api.Value{Kind: api.Sym, S: "a", L: times(1, api.Value{})}, api.Value{Kind: api.Str, S: "a", N: -1}, api.Value{Kind: api.Str, L: times(1, api.Value{})},
			api.Value{Kind: api.List, N: 1}, api.Value{Kind: api.List, S: "a"}, api.Value{Kind: 6}, api.Value{Kind: -1}, api.Value{Kind: 256}, api.Value{Kind: 258, N: 1}, api.Value{Kind: 1 << 32}, api.Value{Kind: math.MaxInt}, api.Value{Kind: math.MinInt})
	}
	for _, v := range slices.Clone(l) {
		l = append(l, list(v), list(num(0), v, str("b")), list(list(num(1), v), num(1)))
	}
	return l
}

// textBytes are a text's bytes, by the chapter's words and the library's numbers.
func textBytes(s string) []byte {
	return append(binary.BigEndian.AppendUint32(nil, uint32(len(s))), s...)
}

// valueBytes are a value's, likewise, right or not.
func valueBytes(v api.Value) []byte {
	b := []byte{byte(v.Kind)}
	switch v.Kind {
	case api.Bool:
		b = append(b, byte(v.N))
	case api.Int:
		b = binary.BigEndian.AppendUint64(b, uint64(v.N))
	case api.Sym, api.Str:
		b = append(b, textBytes(v.S)...)
	case api.List:
		b = binary.BigEndian.AppendUint32(b, uint32(len(v.L)))
		for _, x := range v.L {
			b = append(b, valueBytes(x)...)
		}
	}
	return b
}

// readValue is the value that bytes begin with, and the bytes behind it, by the chapter's words; whether it is right is asked of layer 3 in the end.
func readValue(b []byte) (v api.Value, rest []byte, ok bool) {
	v, rest, ok = readNode(b, 1)
	if !ok || !value.Right(v) {
		return api.Value{}, nil, false
	}
	return v, rest, true
}

func readNode(b []byte, deep int) (v api.Value, rest []byte, ok bool) {
	if len(b) == 0 {
		return v, nil, false
	}
	v.Kind, b = int(b[0]), b[1:]
	switch {
	case v.Kind == api.Null:
		return v, b, true
	case v.Kind == api.Bool && len(b) > 0:
		v.N = int64(b[0])
		return v, b[1:], v.N <= 1
	case v.Kind == api.Int && len(b) >= 8:
		v.N = int64(binary.BigEndian.Uint64(b))
		return v, b[8:], true
	case v.Kind >= api.Sym && v.Kind <= api.List && len(b) >= 4:
		n := int(binary.BigEndian.Uint32(b))
		b = b[4:]
		if v.Kind != api.List {
			if n > len(b) {
				return v, nil, false
			}
			v.S = string(b[:n])
			return v, b[n:], true
		}
		if n > 20 || deep > 4 {
			return v, nil, false
		}
		for range n {
			var x api.Value
			if x, b, ok = readNode(b, deep+1); !ok {
				return v, nil, false
			}
			v.L = append(v.L, x)
		}
		return v, b, true
	}
	return v, nil, false
}

// oddNums are numbers that are none from 0 to 2^31 - 1.
func oddNums() []int {
	return []int{-1, -2, -255, -256, 1 << 31, 1<<31 + 1, 1<<32 - 1, 1 << 32, 1<<32 + 5, 1 << 33, 1 << 62, -1 << 31, -1 << 32, math.MinInt, math.MinInt + 1, math.MaxInt}
}

// nums are numbers from 0 to 2^31 - 1.
func nums() []int {
	l := []int{0, 1, 2, 127, 128, 255, 256, 257, 258, 1000, 65535, 65536, 1<<24 - 1, 1 << 24, 0x01020304, 0x7f0000ff, 1 << 30, 1<<31 - 2, 1<<31 - 1}
	for i := range 31 {
		l = append(l, 1<<i, 1<<i+1<<(i/2)-1)
	}
	return l
}

// TestP61Byte: P6.1, each byte is itself; what isn't from 0 to 255 has none.
func TestP61Byte(t *testing.T) {
	for n := range 256 {
		if b := bin.Byte(n); !bytes.Equal(b, []byte{byte(n)}) {
			t.Errorf("%d: %x", n, b)
		}
	}
	for _, n := range append(oddNums(), 256, 257, 300, 511, 512, 65536, math.MaxInt32) {
		if b := bin.Byte(n); len(b) != 0 {
			t.Errorf("%d: %x", n, b)
		}
	}
}

// TestP61Num: P6.1, a number's four bytes, the highest first; none of what is no such number.
func TestP61Num(t *testing.T) {
	for n, want := range map[int]string{0: "\x00\x00\x00\x00", 1: "\x00\x00\x00\x01", 258: "\x00\x00\x01\x02", 0x01020304: "\x01\x02\x03\x04", 1<<31 - 1: "\x7f\xff\xff\xff"} {
		if b := bin.Num(n); string(b) != want {
			t.Errorf("%d: %x", n, b)
		}
	}
	for _, n := range nums() {
		if b := bin.Num(n); !bytes.Equal(b, binary.BigEndian.AppendUint32(nil, uint32(n))) {
			t.Errorf("%d: %x", n, b)
		}
	}
	for _, n := range oddNums() {
		if b := bin.Num(n); len(b) != 0 {
			t.Errorf("%d: %x", n, b)
		}
	}
}

// TestP61Long: P6.1, a long's eight bytes, the highest first, of each sign.
func TestP61Long(t *testing.T) {
	for n, want := range map[int64]string{0: "\x00\x00\x00\x00\x00\x00\x00\x00", -1: "\xff\xff\xff\xff\xff\xff\xff\xff", -2: "\xff\xff\xff\xff\xff\xff\xff\xfe", 0x0102030405060708: "\x01\x02\x03\x04\x05\x06\x07\x08", math.MinInt64: "\x80\x00\x00\x00\x00\x00\x00\x00", math.MaxInt64: "\x7f\xff\xff\xff\xff\xff\xff\xff"} {
		if b := bin.Long(n); string(b) != want {
			t.Errorf("%d: %x", n, b)
		}
	}
	for _, n := range longs() {
		if b := bin.Long(n); !bytes.Equal(b, binary.BigEndian.AppendUint64(nil, uint64(n))) {
			t.Errorf("%d: %x", n, b)
		}
	}
}

// TestP61Text: P6.1, any text's bytes, valid or not, however long.
func TestP61Text(t *testing.T) {
	if b := bin.Text(""); string(b) != "\x00\x00\x00\x00" {
		t.Errorf("nothing: %x", b)
	}
	if b := bin.Text("ab"); string(b) != "\x00\x00\x00\x02ab" {
		t.Errorf("ab: %x", b)
	}
	for _, s := range texts() {
		if b := bin.Text(s); !bytes.Equal(b, textBytes(s)) {
			t.Errorf("%.20q: %d bytes", s, len(b))
		}
	}
	if b := bin.Text("\u00e9"); string(b) != "\x00\x00\x00\x02\xc3\xa9" {
		t.Errorf("bytes aren't counted: %x", b)
	}
}

// TestP61Value: P6.1, right values' bytes, some written out.
func TestP61Value(t *testing.T) {
	for _, x := range []struct {
		v api.Value
		b string
	}{
		{api.Value{}, "\x00"}, {truth(0), "\x01\x00"}, {truth(1), "\x01\x01"}, {num(5), "\x02\x00\x00\x00\x00\x00\x00\x00\x05"}, {num(-1), "\x02\xff\xff\xff\xff\xff\xff\xff\xff"},
		{sym("ab"), "\x03\x00\x00\x00\x02ab"}, {str("ab"), "\x04\x00\x00\x00\x02ab"}, {str(""), "\x04\x00\x00\x00\x00"}, {list(), "\x05\x00\x00\x00\x00"},
		{list(num(1)), "\x05\x00\x00\x00\x01\x02\x00\x00\x00\x00\x00\x00\x00\x01"}, {list(api.Value{}, list(truth(1)), sym("z")), "\x05\x00\x00\x00\x03\x00\x05\x00\x00\x00\x01\x01\x01\x03\x00\x00\x00\x01z"},
		{api.Value{L: []api.Value{}}, "\x00"}, {api.Value{Kind: api.List, L: []api.Value{}}, "\x05\x00\x00\x00\x00"}, {api.Value{Kind: api.Str, S: "a", L: []api.Value{}}, "\x04\x00\x00\x00\x01a"},
	} {
		if b := bin.Value(x.v); string(b) != x.b {
			t.Errorf("%v: %x", x.v, b)
		}
	}
	for _, v := range right() {
		if b := bin.Value(v); !bytes.Equal(b, valueBytes(v)) {
			t.Errorf("%v: %x", v, b)
		}
	}
}

// TestP61Wrong: P6.1, of values that aren't right there are no bytes, in lists, too.
func TestP61Wrong(t *testing.T) {
	for _, v := range wrong(true) {
		if b := bin.Value(v); len(b) != 0 {
			t.Errorf("%v: %x", v, b)
		}
	}
}

// TestP61Far: P6.1, nor of values that are far deeper, or have far more nodes, than layer 3 speaks of.
func TestP61Far(t *testing.T) {
	many := num(1)
	for range 30 {
		many = list(times(20, many)...)
	}
	other := api.Value{Kind: api.Str, S: "a"}
	for range 30 {
		other = api.Value{Kind: api.Null, L: times(2, other)}
	}
	wide := num(1)
	for range 4 {
		wide = list(times(1000, wide)...)
	}
	for i, v := range []api.Value{wide, list(num(1), wide), nest(60000, num(1)), list(num(1), nest(60000, list())), many, list(num(1), many), other, list(other), list(times(100000, num(1))...), list(num(1), list(times(1001, str("a"))...))} {
		if b := bin.Value(v); len(b) != 0 {
			t.Errorf("%d: %d bytes", i, len(b))
		}
	}
}

// TestP61All: P6.1, all bytes, one behind the other.
func TestP61All(t *testing.T) {
	for _, l := range [][][]byte{nil, {}, {nil}, {{}, nil, {}}} {
		if b := bin.All(l...); len(b) != 0 {
			t.Errorf("%x: %x", l, b)
		}
	}
	for _, x := range []struct {
		l    []string
		want string
	}{{[]string{"a"}, "a"}, {[]string{"ab", "c"}, "abc"}, {[]string{"c", "ab"}, "cab"}, {[]string{"", "\x00", "", "\xff\x00", "x", ""}, "\x00\xff\x00x"}} {
		var l [][]byte
		for _, s := range x.l {
			l = append(l, []byte(s))
		}
		if b := bin.All(l...); string(b) != x.want {
			t.Errorf("%q: %x", x.l, b)
		}
	}
	if b := bin.All(bin.Byte(1), nil, bin.Text("b"), bin.Num(-1), bin.Long(-1), bin.Value(list())); string(b) != "\x01\x00\x00\x00\x01b\xff\xff\xff\xff\xff\xff\xff\xff\x05\x00\x00\x00\x00" {
		t.Errorf("%x", b)
	}
	var l [][]byte
	var want []byte
	for i := range 1000 {
		l = append(l, bytes.Repeat([]byte{byte(i)}, i%7))
		want = append(want, l[i]...)
	}
	if !bytes.Equal(bin.All(l...), want) {
		t.Error("many")
	}
}

// spoil writes over bytes, their spare room, too.
func spoil(b []byte) {
	b = b[:cap(b)]
	for i := range b {
		b[i] = '!'
	}
}

// TestP61New: P6.1, answers are new memory, and what is handed in stays as it is, spare room, too.
func TestP61New(t *testing.T) {
	v := list(num(1), str("a"), list(truth(1)))
	for i, put := range []func() []byte{
		func() []byte { return bin.Byte(7) }, func() []byte { return bin.Num(7) }, func() []byte { return bin.Long(7) }, func() []byte { return bin.Text("abc") }, func() []byte { return bin.Value(v) }, func() []byte { return bin.Value(api.Value{}) },
	} {
		a := put()
		was := slices.Clone(a)
		spoil(a)
		if b := put(); !bytes.Equal(b, was) {
			t.Errorf("%d: %x", i, b)
		}
	}
	if !same(v, list(num(1), str("a"), list(truth(1)))) {
		t.Errorf("%v", v)
	}
	for n := range 4 {
		var l [][]byte
		for range n {
			l = append(l, []byte("abcdefgh")[:3])
		}
		was := slices.Repeat([]string{"abcdefgh"}, n)
		b := bin.All(l...)
		spoil(b)
		for i, x := range l {
			if string(x[:8]) != was[i] {
				t.Errorf("%d handed in: %q", n, x[:8])
			}
		}
	}
}

// said is what a reader says of itself.
func said(t *testing.T, what string, r *bin.Reader, left int, bad bool) {
	t.Helper()
	if r.Left() != left || r.Bad() != bad || r.Done() != (!bad && left == 0) {
		t.Errorf("%s: left %d, bad %v, done %v", what, r.Left(), r.Bad(), r.Done())
	}
}

// silent says whether a reader reads nothing, whatever it is asked for, and stays bad.
func silent(t *testing.T, what string, r *bin.Reader) {
	t.Helper()
	for range 2 {
		said(t, what, r, 0, true)
		if r.Byte() != 0 || r.Num() != 0 || r.Long() != 0 || r.Text() != "" || !isNull(r.Value()) {
			t.Errorf("%s: a bad reader reads", what)
		}
	}
	said(t, what, r, 0, true)
}

// readers are the calls that read: each answers whether it read a thing's zero.
func readers() map[string]func(r *bin.Reader) bool {
	return map[string]func(r *bin.Reader) bool{
		"Byte": func(r *bin.Reader) bool { return r.Byte() == 0 }, "Num": func(r *bin.Reader) bool { return r.Num() == 0 }, "Long": func(r *bin.Reader) bool { return r.Long() == 0 },
		"Text": func(r *bin.Reader) bool { return r.Text() == "" }, "Value": func(r *bin.Reader) bool { return isNull(r.Value()) },
	}
}

// TestP62Read: P6.2, things one behind the other, the reader behind each.
func TestP62Read(t *testing.T) {
	b := []byte("\x07\x00\x00\x01\x02\xff\xff\xff\xff\xff\xff\xff\xfe\x00\x00\x00\x03a\xff\x00\x05\x00\x00\x00\x02\x01\x01\x03\x00\x00\x00\x01z\x00\xff")
	r := bin.Read(b)
	said(t, "at first", r, 35, false)
	if x := r.Byte(); x != 7 {
		t.Error(x)
	}
	said(t, "byte", r, 34, false)
	if x := r.Num(); x != 258 {
		t.Error(x)
	}
	said(t, "number", r, 30, false)
	if x := r.Long(); x != -2 {
		t.Error(x)
	}
	said(t, "long", r, 22, false)
	if x := r.Text(); x != "a\xff\x00" {
		t.Errorf("%q", x)
	}
	said(t, "text", r, 15, false)
	if x := r.Value(); !same(x, list(truth(1), sym("z"))) {
		t.Error(x)
	}
	said(t, "list", r, 2, false)
	if x := r.Value(); !isNull(x) {
		t.Error(x)
	}
	said(t, "null", r, 1, false)
	if x := r.Byte(); x != 255 {
		t.Error(x)
	}
	said(t, "end", r, 0, false)
	for _, b := range [][]byte{nil, {}} {
		said(t, "of nothing", bin.Read(b), 0, false)
	}
}

// TestP62Ends: P6.2, each call, on each number of bytes that there are: read, if they do, and bad, if they end ahead.
func TestP62Ends(t *testing.T) {
	for name, x := range map[string]struct {
		b    []byte
		read func(r *bin.Reader) bool // of what isn't a thing's zero: was just that read?
	}{
		"Byte": {bin.Byte(200), func(r *bin.Reader) bool { return r.Byte() == 200 }}, "Num": {bin.Num(0x01020304), func(r *bin.Reader) bool { return r.Num() == 0x01020304 }},
		"Long": {bin.Long(-3), func(r *bin.Reader) bool { return r.Long() == -3 }}, "Text": {bin.Text("abcde"), func(r *bin.Reader) bool { return r.Text() == "abcde" }},
		"Value": {bin.Value(list(num(1), str("ab"), list(truth(1)))), func(r *bin.Reader) bool { return same(r.Value(), list(num(1), str("ab"), list(truth(1)))) }},
	} {
		for n := range x.b {
			r := bin.Read(x.b[:n])
			if !readers()[name](r) {
				t.Errorf("%s of %d bytes: something", name, n)
			}
			silent(t, name, r)
		}
		for n := range 20 {
			r := bin.Read(append(slices.Clone(x.b), make([]byte, n)...))
			if !x.read(r) {
				t.Errorf("%s with %d bytes behind it", name, n)
			}
			said(t, name, r, n, false)
		}
	}
}

// TestP62Byte: P6.2, each byte is read.
func TestP62Byte(t *testing.T) {
	var b []byte
	for i := range 256 {
		b = append(b, byte(i))
	}
	r := bin.Read(b)
	for i := range 256 {
		if x := r.Byte(); x != i {
			t.Errorf("%d: %d", i, x)
		}
		said(t, "byte", r, 255-i, false)
	}
	if r.Byte() != 0 {
		t.Error("behind the end")
	}
	silent(t, "behind the end", r)
}

// TestP62Num: P6.2, numbers from 0 to 2^31 - 1 are read, others are none.
func TestP62Num(t *testing.T) {
	for _, n := range nums() {
		r := bin.Read(append(binary.BigEndian.AppendUint32(nil, uint32(n)), 1))
		if x := r.Num(); x != n {
			t.Errorf("%d: %d", n, x)
		}
		said(t, "number", r, 1, false)
	}
	for _, n := range []uint32{1 << 31, 1<<31 + 1, 1<<31 + 9, 3 << 30, math.MaxUint32 - 1, math.MaxUint32} {
		for _, read := range []string{"Num", "Text"} {
			r := bin.Read(append(binary.BigEndian.AppendUint32(nil, n), make([]byte, 40)...))
			if !readers()[read](r) {
				t.Errorf("%s of %x: something", read, n)
			}
			silent(t, read, r)
		}
	}
}

// TestP62Long: P6.2, longs of each sign.
func TestP62Long(t *testing.T) {
	for _, n := range longs() {
		r := bin.Read(append(binary.BigEndian.AppendUint64(nil, uint64(n)), 1, 2))
		if x := r.Long(); x != n {
			t.Errorf("%d: %d", n, x)
		}
		said(t, "long", r, 2, false)
	}
}

// TestP62Text: P6.2, texts of any bytes; of more bytes than are left there is none.
func TestP62Text(t *testing.T) {
	for _, s := range texts() {
		r := bin.Read(append(textBytes(s), 7))
		if x := r.Text(); x != s {
			t.Errorf("%.20q: %.20q", s, x)
		}
		said(t, "text", r, 1, false)
		r = bin.Read(textBytes(s))
		if x := r.Text(); x != s {
			t.Errorf("%.20q: %.20q", s, x)
		}
		said(t, "text", r, 0, false)
	}
	for _, n := range []uint32{4, 5, 256, 1 << 16, 1<<24 + 3, 1<<31 - 1, 1<<31 + 3} {
		r := bin.Read(append(binary.BigEndian.AppendUint32(nil, n), "abc"...))
		if x := r.Text(); x != "" {
			t.Errorf("%d: %q", n, x)
		}
		silent(t, "text", r)
	}
}

// TestP62Value: P6.2, right values are read, with bytes behind them, or none.
func TestP62Value(t *testing.T) {
	for _, v := range right() {
		for _, behind := range []string{"", "\x00", "\x05\x00\x00\x00\x01\x00", "\xff\xff\xff\xff\xff\xff\xff\xff\xff"} {
			r := bin.Read(append(valueBytes(v), behind...))
			if x := r.Value(); !same(x, v) {
				t.Errorf("%v: %v", v, x)
			}
			said(t, value.Text(v), r, len(behind), false)
		}
	}
}

// TestP62Wrong: P6.2, what isn't a right value's bytes isn't read, whatever stands behind it.
func TestP62Wrong(t *testing.T) {
	var l [][]byte
	for _, v := range wrong(false) {
		l = append(l, valueBytes(v))
	}
	for x := 6; x < 256; x++ {
		l = append(l, []byte{byte(x)}, []byte{5, 0, 0, 0, 2, 0, byte(x)}, []byte{5, 0, 0, 0, 1, byte(x)})
	}
	for x := 2; x < 256; x++ {
		l = append(l, []byte{1, byte(x)})
	}
	for _, n := range []uint32{21, 22, 255, 256, 1 << 16, 1 << 24, 1<<24 + 1, 1<<31 - 1, 1 << 31, 1<<31 + 1, math.MaxUint32} {
		l = append(l, binary.BigEndian.AppendUint32([]byte{5}, n), binary.BigEndian.AppendUint32([]byte{5, 0, 0, 0, 1, 5}, n))
	}
	for _, n := range []uint32{201, 1 << 16, 1<<24 + 1, 1 << 31, 1<<31 + 1, math.MaxUint32} {
		l = append(l, binary.BigEndian.AppendUint32([]byte{3}, n), binary.BigEndian.AppendUint32([]byte{4}, n))
	}
	l = append(l, bytes.Repeat([]byte{5, 0, 0, 0, 1}, 60000), bytes.Repeat([]byte{5, 0, 0, 0, 20}, 60000), slices.Concat(bytes.Repeat([]byte{5, 0, 0, 0, 20}, 4), bytes.Repeat([]byte{5, 0, 0, 0, 0}, 100000)))
	for _, b := range l {
		for _, behind := range []int{0, 1, 300} {
			r := bin.Read(append(slices.Clone(b), bytes.Repeat([]byte("a"), behind)...))
			if x := r.Value(); !isNull(x) {
				t.Errorf("%.40x: %v", b, x)
			}
			silent(t, "wrong", r)
		}
	}
}

// TestP62Nodes: P6.2, a value of 100 nodes is read, one of 101 isn't, in whichever lists they are.
func TestP62Nodes(t *testing.T) {
	for _, x := range []struct {
		at    int // which list is the longer one
		sizes []int
	}{{4, []int{20, 20, 20, 20, 14}}, {0, []int{14, 20, 20, 20, 20}}, {3, []int{20, 20, 20, 17, 17}}, {0, []int{3, 20, 20, 20, 10, 20}}, {5, []int{0, 20, 20, 20, 20, 13}}} {
		for more := range 3 {
			v := list()
			for i, n := range x.sizes {
				if i == x.at {
					n += more
				}
				v.L = append(v.L, list(times(n, api.Value{})...))
			}
			if value.Nodes(v) != 100+more {
				t.Fatalf("%v: %d nodes", x.sizes, value.Nodes(v))
			}
			r := bin.Read(append(valueBytes(v), 9))
			if w := r.Value(); more == 0 && (r.Left() != 1 || !same(w, v)) || more > 0 && (!r.Bad() || !isNull(w)) {
				t.Errorf("%v, %d nodes: read as %v, left %d", x.sizes, 100+more, w, r.Left())
			}
			if b := bin.Value(v); (len(b) == 0) != (more > 0) {
				t.Errorf("%v, %d nodes: %d bytes", x.sizes, 100+more, len(b))
			}
		}
	}
}

// TestP62Turned: P6.2, values' bytes with each byte another one, away, or there twice: what the chapter's words say of them.
func TestP62Turned(t *testing.T) {
	check := func(b []byte) {
		t.Helper()
		r := bin.Read(b)
		v, rest, ok := readValue(b)
		if x := r.Value(); !same(x, v) || r.Left() != len(rest) || r.Bad() == ok {
			t.Fatalf("%x: %v, left %d, bad %v", b, x, r.Left(), r.Bad())
		}
	}
	for _, v := range []api.Value{{}, truth(1), num(-3), sym("ab"), str("\u20ac"), list(), list(num(1), sym("a"), list(str("b"), list(api.Value{}, list(truth(0))))), list(list(), list(), str("xyz")), nest(4, sym("q")), list(times(20, truth(1))...)} {
		b := append(valueBytes(v), 0, 1, 1, 0)
		for at := range b {
			for x := range 256 {
				c := slices.Clone(b)
				c[at] = byte(x)
				check(c)
			}
			check(slices.Delete(slices.Clone(b), at, at+1))
			check(slices.Insert(slices.Clone(b), at, b[at]))
			check(b[at:])
			check(b[:at])
		}
	}
}

// TestP62Any: P6.2, all rows of up to seven of a few bytes, and longer ones behind some beginnings.
func TestP62Any(t *testing.T) {
	few := []byte{0, 1, 2, 4, 5, 'a'}
	var all func(b []byte)
	all = func(b []byte) {
		r := bin.Read(b)
		v, rest, ok := readValue(b)
		if x := r.Value(); !same(x, v) || r.Left() != len(rest) || r.Bad() == ok {
			t.Fatalf("%x: %v, left %d, bad %v", b, x, r.Left(), r.Bad())
		}
		if len(b) == 7 {
			return
		}
		for _, x := range few {
			all(append(b, x))
		}
	}
	all(make([]byte, 0, 7))
	for _, head := range []string{"\x05\x00\x00\x00", "\x04\x00\x00\x00", "\x05\x00\x00\x00\x02"} {
		for _, x := range few {
			for _, y := range few {
				for _, z := range few {
					b := append([]byte(head), x, y, z, 'a', 'b', 'c', 'd', 'e', 0)
					v, rest, ok := readValue(b)
					r := bin.Read(b)
					if got := r.Value(); !same(got, v) || r.Left() != len(rest) || r.Bad() == ok {
						t.Fatalf("%x: %v, left %d, bad %v", b, got, r.Left(), r.Bad())
					}
				}
			}
		}
	}
}

// TestP62Bad: P6.2, behind each fault, of each call, nothing is read any more, though bytes are there.
func TestP62Bad(t *testing.T) {
	behind := slices.Concat(bin.Byte(1), bin.Num(1), bin.Long(1), bin.Text("abc"), bin.Value(num(1)))
	for i, x := range []struct {
		read string
		b    string
	}{{"Num", "\x80\x00\x00\x00"}, {"Text", "\x80\x00\x00\x01"}, {"Text", "\x00\x01\x00\x00"}, {"Value", "\x06"}, {"Value", "\x01\x02"}, {"Value", "\x03\x00\x00\x00\x00"}, {"Value", "\x04\x00\x00\x00\x01\xff"}, {"Value", "\x05\x00\x00\x00\x15"}, {"Value", "\x05\x00\x00\x00\x02\x07"}, {"Value", "\x05\x00\x00\x00\x01\x05\x7f\xff\xff\xff"}} {
		r := bin.Read(append([]byte(x.b), behind...))
		if !readers()[x.read](r) {
			t.Errorf("%d: something", i)
		}
		silent(t, x.read, r)
		// What was right ahead of it stays read.
		r = bin.Read(slices.Concat(bin.Long(7), []byte(x.b), behind))
		if r.Long() != 7 || r.Bad() || !readers()[x.read](r) {
			t.Errorf("%d: behind a long", i)
		}
		silent(t, x.read, r)
	}
	for name, read := range readers() {
		r := bin.Read(nil)
		if !read(r) {
			t.Errorf("%s of nothing: something", name)
		}
		silent(t, name, r)
	}
}

// TestP62Nil: P6.2, a nil reader is bad.
func TestP62Nil(t *testing.T) {
	var r *bin.Reader
	silent(t, "nil", r)
}

// TestP62Kept: P6.2, bytes are neither changed nor kept, and what is read is new memory.
func TestP62Kept(t *testing.T) {
	v := list(num(1), list(str("ab"), sym("c")), list(), list(truth(1)))
	whole := bin.All(bin.Text("abc"), bin.Value(v), bin.Value(v))
	room := append(slices.Clone(whole), "spare room"...)
	b := room[:len(whole)]
	r := bin.Read(b)
	s := r.Text()
	first := r.Value()
	if !bytes.Equal(b, whole) || string(room[len(whole):]) != "spare room" {
		t.Error("changed")
	}
	spoil(room)
	if s != "abc" || !same(first, v) {
		t.Errorf("%q, %v with the bytes", s, first)
	}
	if x := r.Value(); !same(x, v) || !r.Done() {
		t.Errorf("kept: %v", x)
	}
	var over func(v api.Value)
	over = func(v api.Value) {
		for _, x := range v.L {
			over(x)
		}
		l := v.L[:cap(v.L)]
		for i := range l {
			l[i] = sym("over")
		}
	}
	r = bin.Read(whole)
	r.Text()
	first = r.Value()
	over(first.L[1])
	if !same(first.L[2], list()) || !same(first.L[3], list(truth(1))) || !same(first.L[0], num(1)) {
		t.Errorf("two lists share: %v", first)
	}
	over(first)
	if x := r.Value(); !same(x, v) {
		t.Errorf("two values share: %v", x)
	}
}

// TestP62Two: P6.2, two readers of the same bytes have nothing of one another.
func TestP62Two(t *testing.T) {
	b := []byte{1, 2, 3, 0x80, 0, 0, 0}
	r, q := bin.Read(b), bin.Read(b)
	if r.Byte() != 1 || r.Byte() != 2 || q.Byte() != 1 || r.Byte() != 3 || r.Num() != 0 {
		t.Error("read")
	}
	said(t, "one", r, 0, true)
	said(t, "other", q, 6, false)
	if q.Byte() != 2 {
		t.Error("other")
	}
}

// TestP63Again: P6.3, what is put is read again, with what stands behind it left.
func TestP63Again(t *testing.T) {
	for _, behind := range []string{"", "\x00", "\xff\xff", "\x05\x00\x00\x00\x01\x00"} {
		for n := range 256 {
			r := bin.Read(append(bin.Byte(n), behind...))
			if x := r.Byte(); x != n || r.Left() != len(behind) || r.Bad() {
				t.Errorf("byte %d: %d", n, x)
			}
		}
		for _, n := range nums() {
			r := bin.Read(append(bin.Num(n), behind...))
			if x := r.Num(); x != n || r.Left() != len(behind) || r.Bad() {
				t.Errorf("number %d: %d", n, x)
			}
		}
		for _, n := range longs() {
			r := bin.Read(append(bin.Long(n), behind...))
			if x := r.Long(); x != n || r.Left() != len(behind) || r.Bad() {
				t.Errorf("long %d: %d", n, x)
			}
		}
		for _, s := range texts() {
			r := bin.Read(append(bin.Text(s), behind...))
			if x := r.Text(); x != s || r.Left() != len(behind) || r.Bad() {
				t.Errorf("text %.20q: %.20q", s, x)
			}
		}
		for _, v := range right() {
			r := bin.Read(append(bin.Value(v), behind...))
			if x := r.Value(); !same(x, v) || r.Left() != len(behind) || r.Bad() {
				t.Errorf("%v: %v", v, x)
			}
		}
	}
	var b []byte
	for _, v := range right() {
		b = append(b, bin.Value(v)...)
	}
	r := bin.Read(b)
	for _, v := range right() {
		if x := r.Value(); !same(x, v) || r.Bad() {
			t.Fatalf("%v in a row: %v", v, x)
		}
	}
	if !r.Done() {
		t.Error("something is left")
	}
}

// TestP63One: P6.3, two right values have the same bytes just if they are the same, and none's begin another one's.
func TestP63One(t *testing.T) {
	l := right()
	for i, a := range l {
		x := bin.Value(a)
		if !bytes.Equal(x, bin.Value(value.Copy(a))) {
			t.Errorf("%v has two", a)
		}
		for j, b := range l {
			if y := bin.Value(b); value.Same(a, b) != (i == j) || bytes.Equal(x, y) != (i == j) || i != j && bytes.HasPrefix(x, y) {
				t.Errorf("%v and %v: %x and %x", a, b, x, y)
			}
		}
	}
}

// TestP63Back: P6.3, a value that is read has just the bytes that it was read of.
func TestP63Back(t *testing.T) {
	read := 0
	for _, v := range right() {
		b := valueBytes(v)
		for at := range min(len(b), 40) {
			for _, x := range []byte{0, 1, 2, 3, 4, 5, 'a', 0x80, 0xff, b[at] + 1} {
				c := slices.Clone(b)
				c[at] = x
				r := bin.Read(c)
				if w := r.Value(); !r.Bad() {
					read++
					if !bytes.Equal(bin.Value(w), c[:len(c)-r.Left()]) {
						t.Errorf("%x: %v", c, w)
					}
				}
			}
		}
	}
	if read < 1000 {
		t.Errorf("%d values read", read)
	}
}
