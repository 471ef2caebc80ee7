package num_test

import (
	"math"
	"math/big"
	"strconv"
	"strings"
	"testing"

	"douane/api"
	"douane/num"
)

// numbers are those at the edges, and around each power of ten and of two, below 0 and above.
func numbers() []int64 {
	l := []int64{0, -120, 120, 1234567890123456789, -987654321012345678}
	for p := int64(1); ; p *= 10 {
		l = append(l, p-1, p, p+1, 1-p, -p, -1-p)
		if p > math.MaxInt64/10 {
			break
		}
	}
	for i := range 63 {
		p := int64(1) << i
		l = append(l, p-1, p, p+1, 1-p, -p, -1-p)
	}
	for i := range int64(5) {
		l = append(l, math.MaxInt64-i, math.MinInt64+i)
	}
	return l
}

// texts are all texts of up to five bytes of those that a number is made of, and of some beside them.
func texts() []string {
	l := []string{""}
	last := l
	for range 5 {
		var next []string
		for _, s := range last {
			for _, x := range []byte("-0159+/: \xff") {
				next = append(next, s+string([]byte{x}))
			}
		}
		l = append(l, next...)
		last = next
	}
	return l
}

// oddTexts are no number's digits.
func oddTexts() []string {
	nines := strings.Repeat("9", 30)
	return []string{
		"", "-", "--", "--1", "-+1", "+1", "+0", "-0", "-00", "00", "01", "-01", "007", "-007", "0-", "1-", "1-2", "-1-",
		" 1", "1 ", " ", "1\n", "\n1", "1\x00", "\x001", "- 1", "1 2", "1_000", "1,000", "1.0", "1.", ".1", "1e3", "0x1f", "0b1", "0o7", "ff",
		"/", ":", "1/", "1:", "/1", ":1", "\u0661", "\uff11", "1\u0661", "\u22121", "\u20131", "\xb1", "1\xb1", "\xff", "1\xff",
		"nan", "inf", "-inf", "null", "true",
		nines + "x", "0" + nines, "-0" + nines, nines + "-", "-" + nines + ".", nines + ".0", "00000000000000000000000", "-" + strings.Repeat("0", 25),
	}
}

// greatTexts are the digits of numbers that aren't of 64 bits.
func greatTexts() []string {
	l := []string{"9223372036854775808", "-9223372036854775809", "9223372036854775809", "9223372036854775810", "9300000000000000000", "9999999999999999999"}
	// What wraps round in 64 bits to something that could be taken for a number.
	for _, s := range []string{"18446744073709551615", "18446744073709551616", "18446744073709551617", "18446744073709551621", "184467440737095516160", "36893488147419103232", "340282366920938463463374607431768211456", "340282366920938463463374607431768211463", "10000000000000000000", "99999999999999999999", "92233720368547758070"} {
		l = append(l, s, "-"+s)
	}
	return append(l, "1"+strings.Repeat("0", 100000), "-"+strings.Repeat("9", 100000))
}

// wanted says by the chapter's words what Parse answers, one after the other: is it formed, is it one of 64 bits?
func wanted(s string) (int64, api.Errno) {
	digits := strings.TrimPrefix(s, "-")
	if digits == "" || strings.Trim(digits, "0123456789") != "" {
		return 0, api.ErrForm
	}
	if len(digits) > 1 && digits[0] == '0' || s == "-0" {
		return 0, api.ErrForm
	}
	n, _ := new(big.Int).SetString(s, 10)
	if !n.IsInt64() {
		return 0, api.ErrNum
	}
	return n.Int64(), api.OK
}

// scanned says by the chapter's words what Scan answers: of all parts from a place on, the longest one that may be is taken.
func scanned(s string, at int) (int64, int, api.Errno) {
	if at < 0 || at > len(s) {
		return 0, at, api.ErrForm
	}
	for end := len(s); end > at; end-- {
		part := s[at:end]
		digits := strings.TrimPrefix(part, "-")
		if digits == "" || strings.Trim(digits, "0123456789") != "" {
			continue
		}
		n, e := wanted(part)
		if e != api.OK {
			return 0, at, e
		}
		return n, end, api.OK
	}
	return 0, at, api.ErrForm
}

// TestP21Print: P2.1, of ordinary numbers and of those at the edges.
func TestP21Print(t *testing.T) {
	for n, want := range map[int64]string{
		0: "0", 1: "1", 9: "9", 10: "10", 100: "100", 101: "101", -1: "-1", -9: "-9", -10: "-10", -120: "-120", 1002003: "1002003",
		math.MaxInt64: "9223372036854775807", math.MinInt64: "-9223372036854775808", math.MinInt64 + 1: "-9223372036854775807", 1000000000000000000: "1000000000000000000", -1000000000000000000: "-1000000000000000000",
	} {
		if got := num.Print(n); got != want {
			t.Errorf("%d: %q", n, got)
		}
	}
	for _, n := range numbers() {
		if got := num.Print(n); got != strconv.FormatInt(n, 10) {
			t.Errorf("%d: %q", n, got)
		}
	}
	for n := int64(-20000); n <= 20000; n++ {
		if got := num.Print(n); got != strconv.FormatInt(n, 10) {
			t.Fatalf("%d: %q", n, got)
		}
	}
}

// TestP21Parse: P2.1, of numbers' digits.
func TestP21Parse(t *testing.T) {
	for s, want := range map[string]int64{
		"0": 0, "1": 1, "-1": -1, "10": 10, "-120": -120, "1002003": 1002003,
		"9223372036854775807": math.MaxInt64, "9223372036854775799": math.MaxInt64 - 8, "-9223372036854775807": math.MinInt64 + 1, "-9223372036854775808": math.MinInt64,
	} {
		if n, e := num.Parse(s); n != want || e != api.OK {
			t.Errorf("%q: %d %d", s, n, e)
		}
	}
	for _, want := range numbers() {
		if n, e := num.Parse(strconv.FormatInt(want, 10)); n != want || e != api.OK {
			t.Errorf("%d: %d %d", want, n, e)
		}
	}
}

// TestP21ErrForm: P2.1, of texts that are no digits, however long they are: their form is told ahead of their size.
func TestP21ErrForm(t *testing.T) {
	for _, s := range oddTexts() {
		if n, e := num.Parse(s); n != 0 || e != api.ErrForm {
			t.Errorf("%q: %d %d", s, n, e)
		}
	}
	for x := range 256 {
		if x >= '0' && x <= '9' {
			continue
		}
		b := string([]byte{byte(x)})
		for _, s := range []string{b, "1" + b, "-1" + b, "1" + b + "2", strings.Repeat("9", 25) + b} {
			if n, e := num.Parse(s); n != 0 || e != api.ErrForm {
				t.Errorf("%q: %d %d", s, n, e)
			}
		}
	}
}

// TestP21ErrNum: P2.1, of digits whose number isn't one of 64 bits.
func TestP21ErrNum(t *testing.T) {
	for _, s := range greatTexts() {
		if n, e := num.Parse(s); n != 0 || e != api.ErrNum {
			t.Errorf("%.30q of %d bytes: %d %d", s, len(s), n, e)
		}
	}
}

// TestP21All: P2.1, of all short texts.
func TestP21All(t *testing.T) {
	for _, s := range texts() {
		want, code := wanted(s)
		if n, e := num.Parse(s); n != want || e != code {
			t.Fatalf("%q: %d %d, not %d %d", s, n, e, want, code)
		}
	}
}

// TestP22: P2.2, by numbers written out.
func TestP22(t *testing.T) {
	for _, x := range []struct {
		s    string
		at   int
		n    int64
		end  int
		code api.Errno
	}{
		{"12", 0, 12, 2, api.OK},
		{"12", 1, 2, 2, api.OK},
		{"a-12,3", 1, -12, 4, api.OK},
		{"a-12,3", 2, 12, 4, api.OK},
		{"a-12,3", 5, 3, 6, api.OK},
		{"a-12,3", 0, 0, 0, api.ErrForm},
		{"a-12,3", 4, 0, 4, api.ErrForm},
		{"1-2", 0, 1, 1, api.OK},
		{"1-2", 1, -2, 3, api.OK},
		{"--1", 0, 0, 0, api.ErrForm},
		{"--1", 1, -1, 3, api.OK},
		{"-", 0, 0, 0, api.ErrForm},
		{"1-", 1, 0, 1, api.ErrForm},
		{"-a1", 0, 0, 0, api.ErrForm},
		{"+1", 0, 0, 0, api.ErrForm},
		{"+1", 1, 1, 2, api.OK},
		{" 1", 0, 0, 0, api.ErrForm},
		{"0", 0, 0, 1, api.OK},
		{"0,", 0, 0, 1, api.OK},
		{"0x1f", 0, 0, 1, api.OK},
		{"0.5", 0, 0, 1, api.OK},
		{"0-1", 0, 0, 1, api.OK},
		{"1e5", 0, 1, 1, api.OK},
		{"-0", 0, 0, 0, api.ErrForm},
		{"-0,", 0, 0, 0, api.ErrForm},
		{"-0", 1, 0, 2, api.OK},
		{"012", 0, 0, 0, api.ErrForm},
		{"-012", 0, 0, 0, api.ErrForm},
		{"012", 1, 12, 3, api.OK},
		{"[007]", 1, 0, 1, api.ErrForm},
		{"", 0, 0, 0, api.ErrForm},
		{"12", 2, 0, 2, api.ErrForm},
	} {
		if n, end, e := num.Scan(x.s, x.at); n != x.n || end != x.end || e != x.code {
			t.Errorf("%q at %d: %d %d %d", x.s, x.at, n, end, e)
		}
	}
}

// TestP22Edges: P2.2, of numbers at the edges and beyond, with something ahead and behind: an error leaves the place as it is.
func TestP22Edges(t *testing.T) {
	for _, s := range append(greatTexts(), "9223372036854775807", "-9223372036854775808", "9223372036854775806", "-9223372036854775807") {
		want, code := wanted(s)
		end := 2 + len(s)
		if code != api.OK {
			end = 2
		}
		for _, behind := range []string{"", "-1", ",1", " 7", "\xb1", "a"} {
			if n, at, e := num.Scan("-a"+s+behind, 2); n != want || at != end || e != code {
				t.Errorf("%.30q of %d bytes, and %q: %d %d %d", s, len(s), behind, n, at, e)
			}
		}
	}
}

// TestP22Places: P2.2, at places that are none.
func TestP22Places(t *testing.T) {
	for _, s := range []string{"", "12", "-12", "a"} {
		for _, at := range []int{-1, -2, math.MinInt, math.MinInt32, len(s), len(s) + 1, len(s) + 2, math.MaxInt32, math.MaxInt - 1, math.MaxInt} {
			if n, end, e := num.Scan(s, at); n != 0 || end != at || e != api.ErrForm {
				t.Errorf("%q at %d: %d %d %d", s, at, n, end, e)
			}
		}
	}
}

// TestP22All: P2.2, at each place of all short texts.
func TestP22All(t *testing.T) {
	for _, s := range texts() {
		for at := -1; at <= len(s)+1; at++ {
			want, behind, code := scanned(s, at)
			if n, end, e := num.Scan(s, at); n != want || end != behind || e != code {
				t.Fatalf("%q at %d: %d %d %d, not %d %d %d", s, at, n, end, e, want, behind, code)
			}
		}
	}
}

// TestP23: P2.3, by sums written out.
func TestP23(t *testing.T) {
	for _, x := range []struct {
		a, b, sum int64
		ok        bool
	}{
		{0, 0, 0, true},
		{5, -9, -4, true},
		{-5, 5, 0, true},
		{-5, -9, -14, true},
		{math.MaxInt64, 0, math.MaxInt64, true},
		{math.MaxInt64, 1, 0, false},
		{math.MaxInt64 - 1, 1, math.MaxInt64, true},
		{math.MaxInt64, -1, math.MaxInt64 - 1, true},
		{math.MaxInt64, math.MaxInt64, 0, false},
		{math.MinInt64, 0, math.MinInt64, true},
		{math.MinInt64, -1, 0, false},
		{math.MinInt64 + 1, -1, math.MinInt64, true},
		{math.MinInt64, 1, math.MinInt64 + 1, true},
		{math.MinInt64, math.MinInt64, 0, false},
		{math.MinInt64, math.MaxInt64, -1, true},
		{1 << 62, 1 << 62, 0, false},
		{1 << 62, 1<<62 - 1, math.MaxInt64, true},
		{-1 << 62, -1 << 62, math.MinInt64, true},
		{-1 << 62, -1<<62 - 1, 0, false},
	} {
		if sum, ok := num.Add(x.a, x.b); sum != x.sum || ok != x.ok {
			t.Errorf("%d and %d: %d %v", x.a, x.b, sum, ok)
		}
		if sum, ok := num.Add(x.b, x.a); sum != x.sum || ok != x.ok {
			t.Errorf("%d and %d: %d %v", x.b, x.a, sum, ok)
		}
	}
}

// TestP23Pairs: P2.3, of each two numbers of a list, against sums without bounds.
func TestP23Pairs(t *testing.T) {
	l := numbers()
	for _, a := range l {
		for _, b := range l {
			want, ok := int64(0), false
			if s := new(big.Int).Add(big.NewInt(a), big.NewInt(b)); s.IsInt64() {
				want, ok = s.Int64(), true
			}
			if sum, got := num.Add(a, b); sum != want || got != ok {
				t.Fatalf("%d and %d: %d %v, not %d %v", a, b, sum, got, want, ok)
			}
		}
	}
}

// TestP24Printed: P2.4, what is printed is read again, alone and within a text.
func TestP24Printed(t *testing.T) {
	for _, want := range numbers() {
		s := num.Print(want)
		if n, e := num.Parse(s); n != want || e != api.OK {
			t.Errorf("%d: Parse(%q) is %d %d", want, s, n, e)
		}
		if n, end, e := num.Scan("x"+s+"x", 1); n != want || end != 1+len(s) || e != api.OK {
			t.Errorf("%d: Scan(%q) is %d %d %d", want, s, n, end, e)
		}
	}
}

// TestP24Read: P2.4, what is read is what would be printed.
func TestP24Read(t *testing.T) {
	all := append(texts(), oddTexts()...)
	for _, s := range append(all, greatTexts()...) {
		if n, e := num.Parse(s); e == api.OK && num.Print(n) != s {
			t.Fatalf("%q is read as %d, printed as %q", s, n, num.Print(n))
		}
		for at := range min(len(s), 30) {
			if n, end, e := num.Scan(s, at); e == api.OK && num.Print(n) != s[at:end] {
				t.Fatalf("%q at %d is read as %d, printed as %q", s, at, n, num.Print(n))
			}
		}
	}
}
