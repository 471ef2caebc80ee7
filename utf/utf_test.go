package utf_test

import (
	"bytes"
	"math"
	"slices"
	"strings"
	"testing"
	"unicode/utf8"

	"douane/utf"
)

// isCode says by the chapter's words whether a number is a code.
func isCode(c int) bool {
	return c >= 0 && c <= 0x10FFFF && (c < 0xD800 || c > 0xDFFF)
}

// noCodes are numbers that are none: the edges, and some whose low bits, or low bytes, alone would be one.
func noCodes() []int {
	return []int{-1, -128, math.MinInt, math.MinInt32, 0xD800, 0xDABC, 0xDBFF, 0xDC00, 0xDFFF, 0x110000, 0x1FFFFF, 0x200000, 1<<32 + 'a', math.MaxInt32, math.MaxInt}
}

// edges are codes at both ends of each length, and beside what is none.
func edges() []int {
	return []int{0, 1, 'a', 0x7F, 0x80, 0xFF, 0x7FF, 0x800, 0x20AC, 0xD7FF, 0xE000, 0xFFFD, 0xFFFE, 0xFFFF, 0x10000, 0x1F600, 0x3FFFF, 0x40000, 0xFFFFF, 0x100000, 0x10FFFF}
}

// edgeBytes are bytes at both ends of each part that a byte may play.
func edgeBytes() []byte {
	return []byte{0, 'a', 0x7F, 0x80, 0x8F, 0x90, 0x9F, 0xA0, 0xBF, 0xC0, 0xC1, 0xC2, 0xDF, 0xE0, 0xE1, 0xEC, 0xED, 0xEE, 0xEF, 0xF0, 0xF1, 0xF3, 0xF4, 0xF5, 0xF7, 0xF8, 0xFB, 0xFC, 0xFE, 0xFF}
}

// texts are texts of one to four of the edge bytes.
func texts() []string {
	var l []string
	last := []string{""}
	for range 4 {
		var next []string
		for _, s := range last {
			for _, x := range edgeBytes() {
				next = append(next, s+string([]byte{x}))
			}
		}
		l = append(l, next...)
		last = next
	}
	return l
}

// mixed are longer texts, valid and not.
func mixed() []string {
	long := strings.Repeat("a\u00e9\u20ac\U0001f600", 500)
	return []string{"", "a", "\x00", "a\u20acb", long, long + "\xe2\x82", "\xff" + long, long + "\xed\xa0\x80" + long, long + "\xc0\x80", "\u20ac\x80\u20ac", "\xf4\x8f\xbf\xbf", "\xf4\x90\x80\x80", "ab\xe2\x82"}
}

// TestP11Put: P1.1, of each code and of numbers beside them.
func TestP11Put(t *testing.T) {
	for c := -300; c <= 0x110300; c++ {
		want := []byte(nil)
		if isCode(c) {
			want = utf8.AppendRune(nil, rune(c))
		}
		if got := utf.Put(c); !bytes.Equal(got, want) {
			t.Fatalf("Put(%x): %x, not %x", c, got, want)
		}
	}
	for _, c := range noCodes() {
		if got := utf.Put(c); len(got) != 0 {
			t.Errorf("Put(%x): %x of what is no code", c, got)
		}
	}
	if got := utf.Put(0x20AC); !bytes.Equal(got, []byte{0xE2, 0x82, 0xAC}) {
		t.Errorf("Put(20AC): %x", got)
	}
}

// TestP11Get: P1.1, of each form of up to four edge bytes, with other bytes ahead and behind.
func TestP11Get(t *testing.T) {
	for _, s := range texts() {
		r, n := utf8.DecodeRuneInString(s)
		ok := r != utf8.RuneError || n != 1
		if !ok {
			r, n = 0, 0
		}
		if c, m, got := utf.Get([]byte(s), 0); c != int(r) || m != n || got != ok {
			t.Fatalf("Get(%x, 0): %x %d %v", s, c, m, got)
		}
		if c, m, got := utf.Get([]byte("\xe2"+s), 1); c != int(r) || m != n || got != ok {
			t.Fatalf("Get(e2%x, 1): %x %d %v", s, c, m, got)
		}
	}
}

// TestP11Replacement: P1.1, the code FFFD is one as any other.
func TestP11Replacement(t *testing.T) {
	if c, n, ok := utf.Get([]byte("\xef\xbf\xbd"), 0); c != 0xFFFD || n != 3 || !ok {
		t.Error(c, n, ok)
	}
}

// TestP11Places: P1.1, at each place of a text, and at places that are none.
func TestP11Places(t *testing.T) {
	b := []byte("a\u20acb\U0001f600")
	want := [][2]int{{'a', 1}, {0x20AC, 3}, {}, {}, {'b', 1}, {0x1F600, 4}, {}, {}, {}}
	for at, w := range want {
		if c, n, ok := utf.Get(b, at); c != w[0] || n != w[1] || ok != (n > 0) {
			t.Errorf("at %d: %x %d %v", at, c, n, ok)
		}
	}
	for _, at := range []int{len(b), len(b) + 1, -1, math.MinInt, math.MinInt32, math.MaxInt, math.MaxInt - 1, math.MaxInt32} {
		if c, n, ok := utf.Get(b, at); c != 0 || n != 0 || ok {
			t.Errorf("at %d: %x %d %v", at, c, n, ok)
		}
	}
	if c, n, ok := utf.Get(nil, 0); c != 0 || n != 0 || ok {
		t.Error("of nothing:", c, n, ok)
	}
}

// TestP11Room: P1.1, bytes in the spare room are none of the text, and stay as they are.
func TestP11Room(t *testing.T) {
	all := []byte("a\u20acb")
	for end := 2; end < 4; end++ {
		if c, n, ok := utf.Get(all[:end], 1); c != 0 || n != 0 || ok {
			t.Errorf("%d bytes: %x %d %v", end, c, n, ok)
		}
	}
	if string(all) != "a\u20acb" {
		t.Errorf("changed: %q", all)
	}
}

// TestP11New: P1.1, an answer is new memory.
func TestP11New(t *testing.T) {
	a, b := utf.Put(0x20AC), utf.Put(0x20AC)
	a[0], a[2] = 0, 0
	_ = append(a, 1, 2, 3)
	if !bytes.Equal(b, []byte{0xE2, 0x82, 0xAC}) || !bytes.Equal(utf.Put(0x20AC), b) {
		t.Errorf("%x", b)
	}
}

// whole are the codes of a text as far as they go, and where they end, by the library.
func whole(s string) ([]int, int) {
	var l []int
	at := 0
	for at < len(s) {
		r, n := utf8.DecodeRuneInString(s[at:])
		if r == utf8.RuneError && n == 1 {
			break
		}
		l, at = append(l, int(r)), at+n
	}
	return l, at
}

// TestP12: P1.2, Valid, Count and Codes of texts that are valid and of others.
func TestP12(t *testing.T) {
	for _, s := range append(texts(), mixed()...) {
		want, at := whole(s)
		if l, end := utf.Codes(s); !slices.Equal(l, want) || end != at {
			t.Fatalf("Codes(%x): %x %d, not %x %d", s, l, end, want, at)
		}
		ok, n := at == len(s), len(want)
		if !ok {
			n = -1
		}
		if utf.Valid(s) != ok || utf.Count(s) != n {
			t.Fatalf("%x: Valid %v, Count %d", s, utf.Valid(s), utf.Count(s))
		}
	}
}

// TestP12Edges: P1.2, by numbers written out.
func TestP12Edges(t *testing.T) {
	for _, x := range []struct {
		s     string
		codes []int
		end   int
		count int
	}{
		{"", nil, 0, 0},
		{"a", []int{97}, 1, 1},
		{"\x00\x7f", []int{0, 127}, 2, 2},
		{"a\u20acb\xff", []int{97, 0x20AC, 98}, 5, -1},
		{"\xffa", nil, 0, -1},
		{"a\xc0\x80", []int{97}, 1, -1},
		{"a\xed\xa0\x80", []int{97}, 1, -1},
		{"a\xe2\x82", []int{97}, 1, -1},
		{"\U0010ffff", []int{0x10FFFF}, 4, 1},
		{"\ufffd\ufffd", []int{0xFFFD, 0xFFFD}, 6, 2},
	} {
		l, end := utf.Codes(x.s)
		if !slices.Equal(l, x.codes) || end != x.end || utf.Count(x.s) != x.count || utf.Valid(x.s) != (x.count >= 0) {
			t.Errorf("%q: %x %d, Count %d, Valid %v", x.s, l, end, utf.Count(x.s), utf.Valid(x.s))
		}
	}
}

// TestP12Text: P1.2, of codes, and of lists that have something else at each place.
func TestP12Text(t *testing.T) {
	for _, l := range [][]int{nil, {}} {
		if s, ok := utf.Text(l); s != "" || !ok {
			t.Errorf("of nothing: %q %v", s, ok)
		}
	}
	if s, ok := utf.Text([]int{97, 0x1F600, 0, 0x20AC, 0xE9}); s != "a\U0001f600\x00\u20ac\u00e9" || !ok {
		t.Errorf("%q %v", s, ok)
	}
	for _, c := range noCodes() {
		for at := range 4 {
			l := slices.Insert([]int{97, 0x20AC, 98}, at, c)
			if s, ok := utf.Text(l); s != "" || ok {
				t.Errorf("%x: %q %v", l, s, ok)
			}
		}
	}
}

// TestP12New: P1.2, what is handed in stays as it is, and an answer is new memory.
func TestP12New(t *testing.T) {
	l := []int{97, 0x20AC, 98, 7, 7}
	if s, ok := utf.Text(l[:3]); s != "a\u20acb" || !ok {
		t.Errorf("%q %v", s, ok)
	}
	if !slices.Equal(l, []int{97, 0x20AC, 98, 7, 7}) {
		t.Error("changed:", l)
	}
	a, _ := utf.Codes("ab")
	b, _ := utf.Codes("ab")
	a[0] = 0
	_ = append(a, 1, 2, 3)
	if !slices.Equal(b, []int{97, 98}) {
		t.Error("shared:", b)
	}
}

// TestP13Read: P1.3, what is put is read again, whatever stands around it; what is read is put as the same bytes.
func TestP13Read(t *testing.T) {
	for c := 0; c <= 0x10FFFF; c++ {
		b := utf.Put(c)
		if !isCode(c) {
			continue
		}
		if x, n, ok := utf.Get(b, 0); x != c || n != len(b) || !ok {
			t.Fatalf("%x: %x %d %v", c, x, n, ok)
		}
		around := slices.Concat([]byte("\x80z"), b, []byte("\x80\xbf"))
		if x, n, ok := utf.Get(around, 2); x != c || n != len(b) || !ok {
			t.Fatalf("%x, bytes around it: %x %d %v", c, x, n, ok)
		}
	}
	for _, s := range texts() {
		if c, n, ok := utf.Get([]byte(s), 0); ok && string(utf.Put(c)) != s[:n] {
			t.Fatalf("%x: read as %x, put as %x", s, c, utf.Put(c))
		}
	}
}

// TestP13Text: P1.3, a valid text is the text of its codes, and codes are those of their text; of others, that goes as far as they do.
func TestP13Text(t *testing.T) {
	for _, s := range append(texts(), mixed()...) {
		l, end := utf.Codes(s)
		if x, ok := utf.Text(l); x != s[:end] || !ok {
			t.Fatalf("%x: %x %v", s, x, ok)
		}
	}
	for _, a := range edges() {
		for _, b := range edges() {
			s, ok := utf.Text([]int{a, b})
			if l, end := utf.Codes(s); !ok || end != len(s) || !slices.Equal(l, []int{a, b}) {
				t.Fatalf("%x %x: %x, read as %x", a, b, s, l)
			}
		}
	}
}

// TestP13Together: P1.3, two valid texts together are valid, and have the codes of both.
func TestP13Together(t *testing.T) {
	l := []string{""}
	for _, c := range edges() {
		l = append(l, string(utf.Put(c)), "a"+string(utf.Put(c)))
	}
	for _, s := range mixed() {
		if utf.Valid(s) {
			l = append(l, s)
		}
	}
	for _, a := range l {
		for _, b := range l {
			if !utf.Valid(a+b) || utf.Count(a+b) != utf.Count(a)+utf.Count(b) {
				t.Fatalf("%x and %x: Valid %v, Count %d", a, b, utf.Valid(a+b), utf.Count(a+b))
			}
		}
	}
}
