package token_test

import (
	"encoding/json"
	"fmt"
	"math"
	"regexp"
	"slices"
	"strconv"
	"strings"
	"testing"
	"unicode/utf8"

	"douane/api"
	"douane/token"
)

// told is what comes of a call.
type told struct {
	t  api.Token
	at int
	e  api.Errno
}

// next is what Next answers.
func next(s string, at int) told {
	t, behind, e := token.Next(s, at)
	return told{t, behind, e}
}

var (
	blankRow  = regexp.MustCompile("^[ \t\n\r]*")
	numberRow = regexp.MustCompile(`^[-0-9][-+.eE0-9]*`)
	number    = regexp.MustCompile(`^-?(0|[1-9][0-9]*)(\.[0-9]+)?([eE][-+]?[0-9]+)?$`)
	wordRow   = regexp.MustCompile(`^[A-Za-z]+`)
	word      = regexp.MustCompile(`^(true|false|null)$`)
	part      = regexp.MustCompile(`^(\\["\\/bfnrt]|\\u([0-9abcefABCEF][0-9a-fA-F]|[dD][0-7])[0-9a-fA-F]{2}|\\u[dD][89abAB][0-9a-fA-F]{2}\\u[dD][c-fC-F][0-9a-fA-F]{2})`)
)

// stands is what stands at a place of a text, by the chapter's words and the library's patterns.
func stands(s string, at int) told {
	if at < 0 || at > len(s) {
		return told{at: at, e: api.ErrArg}
	}
	at += len(blankRow.FindString(s[at:]))
	rest := s[at:]
	if rest == "" {
		return told{t: api.Token{At: at, End: at}, at: at}
	}
	if i := strings.IndexByte(" []{}:,", rest[0]); i > 0 {
		return told{t: api.Token{Kind: i, At: at, End: at + 1}, at: at + 1}
	}
	if rest[0] == '"' {
		return textAt(s, at)
	}
	if row := numberRow.FindString(rest); row != "" {
		return numberOf(row, at)
	}
	if row := wordRow.FindString(rest); word.MatchString(row) {
		end := at + len(row)
		return told{t: api.Token{Kind: api.Word, At: at, End: end, S: row}, at: end}
	}
	return told{at: at, e: api.ErrForm}
}

// numberOf is what comes of a row of a number's bytes at a place.
func numberOf(row string, at int) told {
	if !number.MatchString(row) {
		return told{at: at, e: api.ErrForm}
	}
	n, err := strconv.ParseInt(row, 10, 64)
	if err != nil {
		return told{at: at, e: api.ErrNum}
	}
	end := at + len(row)
	return told{t: api.Token{Kind: api.Number, At: at, End: end, N: n}, at: end}
}

// textAt is what comes of the text in quotes at a place.
func textAt(s string, first int) told {
	for at := first + 1; ; {
		rest := s[at:]
		if rest == "" {
			return told{at: at, e: api.ErrForm}
		}
		if rest[0] == '"' {
			var means string
			if err := json.Unmarshal([]byte(s[first:at+1]), &means); err != nil {
				panic(err)
			}
			return told{t: api.Token{Kind: api.Text, At: first, End: at + 1, S: means}, at: at + 1}
		}
		if rest[0] == '\\' {
			escape := part.FindString(rest)
			if escape == "" {
				return told{at: at, e: api.ErrForm}
			}
			at += len(escape)
			continue
		}
		r, n := utf8.DecodeRuneInString(rest)
		if r < ' ' || r == utf8.RuneError && n == 1 {
			return told{at: at, e: api.ErrForm}
		}
		at += n
	}
}

// everything is what All must answer.
func everything(s string) ([]api.Token, int, api.Errno) {
	var l []api.Token
	for at := 0; ; {
		x := stands(s, at)
		if x.e != api.OK {
			return l, x.at, x.e
		}
		l, at = append(l, x.t), x.at
		if x.t.Kind == api.End {
			return l, x.at, x.e
		}
	}
}

// joined are all texts of up to so many of some parts, one behind the other.
func joined(most int, parts ...string) []string {
	l := []string{""}
	last := l
	for range most {
		var more []string
		for _, s := range last {
			for _, p := range parts {
				more = append(more, s+p)
			}
		}
		l, last = append(l, more...), more
	}
	return l
}

// rows are texts of a number's bytes, and of others.
func rows() []string {
	return append(joined(5, "-", "+", ".", "e", "E", "0", "1", "9", "a", " "), joined(3, "-", "0", "12", "9223372036854775807", "9223372036854775808", ".5", "e+3", "E-07", ",", "\"")...)
}

// quoted are texts that begin as a Text does.
func quoted() []string {
	var l []string
	for _, s := range append(joined(4, `"`, `\`, "u", "d83d", "DE00", "0041", "n", "a", "/", "\xc3", "\xa9", "\x1f", " ", "\x7f", "\xed\xa0\x80", "\u20ac"), joined(5, `\u`, `\ud83d`, `\uDe00`, `\u00e9`, `\"`, `\\`, "a", `"`)...) {
		l = append(l, `"`+s, `"`+s+`"`)
	}
	return l
}

// mixed are texts of tokens, right and wrong.
func mixed() []string {
	return append(joined(4, "[", "]", "{", "}", ":", ",", `"a"`, "-0", "12", "true", "null", " ", "\n", "x", "\u00e9", `"`), joined(5, "t", "r", "ue", "true", "false", "null", "N", "1", "-", "_", " ")...)
}

// check holds Next, at a text's beginning, against the chapter's words.
func check(t *testing.T, s string) {
	t.Helper()
	if got, want := next(s, 0), stands(s, 0); got != want {
		t.Fatalf("Next(%q, 0): %v, not %v", s, got, want)
	}
}

// bad is what comes of a text that is wrong at a place.
func bad(at int, e api.Errno) told { return told{at: at, e: e} }

// TestP71Bytes: P7.1, of each byte alone, behind blanks, and with another one behind it.
func TestP71Bytes(t *testing.T) {
	for i := range 256 {
		x := string([]byte{byte(i)})
		check(t, x)
		check(t, " \t\n\r"+x)
		for j := range 256 {
			check(t, x+string([]byte{byte(j)}))
		}
	}
}

// TestP71Marks: P7.1, of what is one byte, written out.
func TestP71Marks(t *testing.T) {
	for s, kind := range map[string]int{"[": 1, "]": 2, "{": 3, "}": 4, ":": 5, ",": 6} {
		for n := range 4 {
			text := strings.Repeat("\r", n) + s + " " + s
			if got := next(text, 0); got != (told{t: api.Token{Kind: kind, At: n, End: n + 1}, at: n + 1}) {
				t.Errorf("%q: %v", text, got)
			}
		}
	}
}

// TestP71End: P7.1, where nothing but blanks is left.
func TestP71End(t *testing.T) {
	for _, s := range joined(4, " ", "\t", "\n", "\r") {
		for at := range len(s) + 1 {
			if got := next(s, at); got != (told{t: api.Token{At: len(s), End: len(s)}, at: len(s)}) {
				t.Errorf("Next(%q, %d): %v", s, at, got)
			}
		}
	}
	for _, s := range []string{"\x00", "\v", "\f", "\x85", "\xa0", "\u00a0", "\u2028", "\ufeff", "\x7f"} {
		if got := next(" "+s+"1", 0); got != bad(1, api.ErrForm) {
			t.Errorf("%q, no blank: %v", s, got)
		}
	}
}

// TestP71Number: P7.1, of rows of a number's bytes.
func TestP71Number(t *testing.T) {
	for _, s := range rows() {
		check(t, s)
		check(t, "-"+s)
	}
}

// TestP71NumberEdges: P7.1, numbers written out.
func TestP71NumberEdges(t *testing.T) {
	long := strings.Repeat("0", 400)
	for _, x := range []struct {
		s  string
		n  int64
		at int
		e  api.Errno
	}{
		{"0", 0, 1, 0}, {"-0", 0, 2, 0}, {"00", 0, 0, api.ErrForm}, {"-00", 0, 0, api.ErrForm}, {"-01", 0, 0, api.ErrForm}, {"--1", 0, 0, api.ErrForm}, {"10", 10, 2, 0}, {"-10", -10, 3, 0},
		{"9223372036854775807", math.MaxInt64, 19, 0}, {"9223372036854775808", 0, 0, api.ErrNum}, {"-9223372036854775808", math.MinInt64, 20, 0}, {"-9223372036854775809", 0, 0, api.ErrNum},
		{"18446744073709551616", 0, 0, api.ErrNum}, {"-18446744073709551617", 0, 0, api.ErrNum}, {"1" + long, 0, 0, api.ErrNum}, {"0" + long, 0, 0, api.ErrForm}, {"09223372036854775808", 0, 0, api.ErrForm},
		{"1.0", 0, 0, api.ErrNum}, {"-0.0", 0, 0, api.ErrNum}, {"0e0", 0, 0, api.ErrNum}, {"1E+2", 0, 0, api.ErrNum}, {"1e-2", 0, 0, api.ErrNum}, {"1.50e03", 0, 0, api.ErrNum}, {"1e" + long, 0, 0, api.ErrNum}, {"1." + long, 0, 0, api.ErrNum},
		{"1.", 0, 0, api.ErrForm}, {"1.e5", 0, 0, api.ErrForm}, {"1e", 0, 0, api.ErrForm}, {"1e+", 0, 0, api.ErrForm}, {"1e+-1", 0, 0, api.ErrForm}, {"1e1.5", 0, 0, api.ErrForm}, {"1e1e1", 0, 0, api.ErrForm}, {"1.2.3", 0, 0, api.ErrForm}, {"-.5", 0, 0, api.ErrForm}, {"-e5", 0, 0, api.ErrForm}, {"00.5", 0, 0, api.ErrForm}, {"1+1", 0, 0, api.ErrForm}, {"1-", 0, 0, api.ErrForm},
		{"+0", 0, 0, api.ErrForm}, {".0", 0, 0, api.ErrForm}, {"e1", 0, 0, api.ErrForm}, {"E1", 0, 0, api.ErrForm},
		{"1x", 1, 1, 0}, {"1true", 1, 1, 0}, {"12_3", 12, 2, 0}, {"0x1f", 0, 1, 0}, {"7\x00", 7, 1, 0}, {"5\u0661", 5, 1, 0}, {"3\"", 3, 1, 0}, {"4 4", 4, 1, 0},
	} {
		want := bad(x.at, x.e)
		if x.e == api.OK {
			want.t = api.Token{Kind: api.Number, End: x.at, N: x.n}
		}
		if got := next(x.s, 0); got != want {
			t.Errorf("%.40q: %v, not %v", x.s, got, want)
		}
	}
}

// TestP71Word: P7.1, of rows of letters.
func TestP71Word(t *testing.T) {
	for _, s := range joined(5, "t", "r", "u", "e", "T", "true", "null", "false") {
		check(t, s)
	}
	for _, w := range []string{"true", "false", "null"} {
		if got := next(w, 0); got != (told{t: api.Token{Kind: api.Word, End: len(w), S: w}, at: len(w)}) {
			t.Errorf("%s: %v", w, got)
		}
		for i := range 256 {
			check(t, w+string([]byte{byte(i)}))
			for at := range len(w) {
				check(t, w[:at]+string([]byte{byte(i)})+w[at+1:])
				check(t, w[:at]+string([]byte{byte(i)})+w[at:])
			}
		}
		for at := range len(w) {
			if got := next("  "+w[:at]+strings.ToUpper(w[at:at+1])+w[at+1:], 0); got != bad(2, api.ErrForm) {
				t.Errorf("%s, letter %d another: %v", w, at, got)
			}
			if got := next("  "+w[:at+1], 0); at+1 < len(w) && got != bad(2, api.ErrForm) {
				t.Errorf("%s: %v", w[:at+1], got)
			}
		}
	}
}

// TestP71Text: P7.1, of Texts of parts of all kinds, with and without an end.
func TestP71Text(t *testing.T) {
	for _, s := range quoted() {
		check(t, s)
	}
}

// TestP71TextBytes: P7.1, each byte, and each two, in a Text and behind a \ in it.
func TestP71TextBytes(t *testing.T) {
	for i := range 256 {
		x := string([]byte{byte(i)})
		check(t, `"`+x)
		check(t, `"a`+x+`b"`)
		check(t, `"a\`+x+`"`)
		check(t, `"a\`+x+`0041"`)
		for j := range 256 {
			check(t, `"`+x+string([]byte{byte(j)})+`"`)
		}
	}
}

// TestP71Codes: P7.1, codes as they are, at the edges of each length, and what is none.
func TestP71Codes(t *testing.T) {
	for _, c := range []rune{' ', 0x7F, 0x80, 0x7FF, 0x800, 0x2028, 0xD7FF, 0xE000, 0xFFFD, 0xFFFF, 0x10000, 0x10FFFF} {
		s := `"a` + string(c) + `b"`
		if got := next(s, 0); got != (told{t: api.Token{Kind: api.Text, End: len(s), S: "a" + string(c) + "b"}, at: len(s)}) {
			t.Errorf("%x: %v", c, got)
		}
		b := []byte(string(c))
		for n := 1; n < len(b); n++ {
			if got := next(`"ab`+string(b[:n])+`"`, 0); got != bad(3, api.ErrForm) {
				t.Errorf("%x: %v", b[:n], got)
			}
			if got := next(`"ab`+string(b[:n]), 0); got != bad(3, api.ErrForm) {
				t.Errorf("%x, no end: %v", b[:n], got)
			}
			if got := next(`"`+string(c)+string(b[n:])+`"`, 0); got != bad(1+len(b), api.ErrForm) {
				t.Errorf("%x: %v", b[n:], got)
			}
		}
	}
	for _, s := range []string{"\xc0\x80", "\xc1\xbf", "\xe0\x9f\xbf", "\xed\xa0\x80", "\xed\xbf\xbf", "\xf0\x8f\xbf\xbf", "\xf4\x90\x80\x80", "\xf8\x88\x80\x80\x80", "\xff", "\xed\xa0\xbd\xed\xb8\x80"} {
		if got := next(`"\u20ac\n`+s+`"`, 0); got != bad(9, api.ErrForm) {
			t.Errorf("%x: %v", s, got)
		}
	}
}

// TestP71Escapes: P7.1, escapes of one byte, written out.
func TestP71Escapes(t *testing.T) {
	means := map[byte]string{'"': "\x22", '\\': "\x5c", '/': "\x2f", 'b': "\x08", 'f': "\x0c", 'n': "\x0a", 'r': "\x0d", 't': "\x09"}
	for i := range 256 {
		s := `"z\` + string([]byte{byte(i)}) + `z"`
		want := bad(2, api.ErrForm)
		if m, ok := means[byte(i)]; ok {
			want = told{t: api.Token{Kind: api.Text, End: 6, S: "z" + m + "z"}, at: 6}
		}
		if got := next(s, 0); got != want {
			t.Errorf("%q: %v, not %v", s, got, want)
		}
	}
}

// TestP71Units: P7.1, each number of four digits in sixteen, of either case.
func TestP71Units(t *testing.T) {
	for c := range 0x10000 {
		for _, form := range []string{`"\u%04x"`, `"\u%04X"`} {
			s := fmt.Sprintf(form, c)
			want := told{t: api.Token{Kind: api.Text, End: 8, S: string(rune(c))}, at: 8}
			if c >= 0xD800 && c <= 0xDFFF {
				want = bad(1, api.ErrForm)
			}
			if got := next(s, 0); got != want {
				t.Fatalf("%s: %v, not %v", s, got, want)
			}
		}
	}
}

// TestP71Digits: P7.1, each byte in the place of each of the four digits, of the first \u and of a second one.
func TestP71Digits(t *testing.T) {
	for i := range 256 {
		for at := range 4 {
			b := []byte(`"\u00e9\ud83d\ude00"`)
			b[3+at] = byte(i)
			check(t, string(b))
			b = []byte(`"\u00e9\ud83d\ude00"`)
			b[9+at] = byte(i)
			check(t, string(b))
			b = []byte(`"\u00e9\ud83d\ude00"`)
			b[15+at] = byte(i)
			check(t, string(b))
		}
	}
	for _, s := range []string{`"\u+041"`, `"\u-041"`, `"\u0x41"`, `"\u0_41"`, `"\u 041"`, `"\u041"`, `"\U0041"`, `"\u{41}"`} {
		if got := next(s, 0); got != bad(1, api.ErrForm) {
			t.Errorf("%s: %v", s, got)
		}
	}
}

// TestP71Pairs: P7.1, two \u that are one code, of each first and of each second number, and beside them.
func TestP71Pairs(t *testing.T) {
	pair := func(high, low int) {
		s := fmt.Sprintf(`"\u%04x\u%04X"`, high, low)
		code := 0x10000 + (high-0xD800)*1024 + (low - 0xDC00)
		want := told{t: api.Token{Kind: api.Text, End: 14, S: string(rune(code))}, at: 14}
		if low < 0xDC00 || low > 0xDFFF {
			want = bad(1, api.ErrForm)
		}
		if got := next(s, 0); got != want {
			t.Fatalf("%s: %v, not %v", s, got, want)
		}
	}
	for i := range 0x400 {
		for _, j := range []int{-1, 0, 1, 0x155, 0x200, 0x3FE, 0x3FF, 0x400} {
			pair(0xD800+i, 0xDC00+j)
		}
	}
	for j := -0x500; j < 0x500; j++ {
		for _, i := range []int{0, 1, 0x3D, 0x2AA, 0x3FE, 0x3FF} {
			pair(0xD800+i, 0xDC00+j)
		}
	}
	for s, at := range map[string]int{
		`"\ud83d\ud83d\ude00"`: 1, `"\ude00\ud83d"`: 1, `"\ud83d\ude00\ude00"`: 13, `"\ud83d\ude00\ud83d"`: 13, `"\u00e9\ud83d\u0041"`: 7, `"\ud83da\ude00"`: 1,
		`"\ud83d \ude00"`: 1, `"\ud83d\\ude00"`: 1, `"\ud83dude00"`: 1, `"\ud83d\n"`: 1, `"\ud83d\x"`: 1, `"\ud83d\ude0"`: 1, `"\ud83d\ude0g"`: 1, `"\ud83d`: 1, `"\ud83d\`: 1, `"\ud83d\u`: 1, `"\ud83d\ude0`: 1, `"\ude00`: 1,
		`"\ud83d\ude00`: 13, "\"\\ud83d\xff\"": 1, "\"\\ud83d\x01\"": 1, `"\ud83d\U0000"`: 1,
	} {
		if got := next(s, 0); got != bad(at, api.ErrForm) {
			t.Errorf("%q: %v", s, got)
		}
	}
}

// TestP71TextWrong: P7.1, the first thing that is wrong counts, and so does where.
func TestP71TextWrong(t *testing.T) {
	for _, x := range []struct {
		s  string
		at int
	}{
		{`"`, 1}, {`"a`, 2}, {`"\"`, 3}, {`"a\\\"`, 6}, {`"\`, 1}, {`"ab\`, 3}, {`"\u`, 1}, {`"\u004`, 1}, {`"\u004"`, 1}, {`"\u0041`, 7}, {"\"\u20ac", 4},
		{"\"\x00\"", 1}, {"\"a\n\"", 2}, {"\"a\t\"", 2}, {"\"ab\x1f", 3}, {"\"ab\x1f\xff", 3}, {"\"ab\xff\x1f", 3}, {"\"ab\\x\xff", 3}, {"\"ab\xff\\x", 3}, {"\"a\xe2\x82\"\xac", 2}, {"\"a\xe2\x82\\n", 2}, {"\"a\xe2\x01\x82\xac\"", 2},
		{"  \"a\x01\"", 4}, {"  \"", 3}, {"'a'", 0}, {"`a`", 0}, {`\"`, 0}, {`\u0041`, 0}, {" \u00e9", 1}, {"\ufeff1", 0}, {"/*a*/1", 0},
	} {
		if got := next(x.s, 0); got != bad(x.at, api.ErrForm) {
			t.Errorf("%q: %v, not at %d", x.s, got, x.at)
		}
	}
}

// TestP71TextRight: P7.1, a Text ends at the first quotes that no \ takes, whatever stands behind.
func TestP71TextRight(t *testing.T) {
	for _, x := range []struct {
		s, means string
		end      int
	}{
		{`""`, "", 2}, {`"""`, "", 2}, {`"\\"`, `\`, 4}, {`"\\""`, `\`, 4}, {`"\\\""`, `\"`, 6}, {`"\"\\"x`, `"\`, 6}, {"\"a\"\xff", "a", 3}, {"\"a\"\x00", "a", 3}, {`"a"b"`, "a", 3}, {`"\u0022"`, `"`, 8}, {`"\u005cn"`, `\n`, 9}, {`"\u0000"`, "\x00", 8}, {`"\u001F"`, "\x1f", 8},
		{"\"\x7f\"", "\x7f", 3}, {`"\u00E9é"`, "éé", 10}, {`"'/<>&"`, "'/<>&", 7}, {`"\ud83d\ude00"`, "\U0001f600", 14}, {`"\uD800\uDC00"`, "\U00010000", 14}, {`"\udbff\udfff"`, "\U0010ffff", 14}, {`"[1,2]"`, "[1,2]", 7}, {`" "`, " ", 3}, {`"\u00410"`, "A0", 9},
	} {
		if got := next(x.s, 0); got != (told{t: api.Token{Kind: api.Text, End: x.end, S: x.means}, at: x.end}) {
			t.Errorf("%q: %v", x.s, got)
		}
	}
}

// TestP71Places: P7.1, at each place of texts, within tokens too; what stands ahead doesn't count.
func TestP71Places(t *testing.T) {
	texts := []string{"", " -0,\"a\" ", `{"a\"\\":[1,null , true],"\ud83d\ude00":-12.5}`, "\"\u20ac\" 12e 007", "[[ ]]\xff\"", "nulltrue 9223372036854775808,1"}
	for _, s := range texts {
		for at := range len(s) + 1 {
			got, want := next(s, at), stands(s, at)
			if got != want {
				t.Errorf("Next(%q, %d): %v, not %v", s, at, got, want)
			}
			alone := next(s[at:], 0)
			alone.at += at
			if got.e == api.OK {
				alone.t.At, alone.t.End = alone.t.At+at, alone.t.End+at
			}
			if got != alone {
				t.Errorf("Next(%q, %d): %v, but of what is left alone %v", s, at, got, alone)
			}
		}
	}
}

// TestP71Arg: P7.1, at places that are none.
func TestP71Arg(t *testing.T) {
	for _, s := range []string{"", "1", "  ", "\"a\"", "\xff"} {
		for _, at := range []int{-1, -2, len(s) + 1, len(s) + 2, math.MinInt, math.MaxInt, math.MinInt32, math.MaxInt32} {
			if got := next(s, at); got != bad(at, api.ErrArg) {
				t.Errorf("Next(%q, %d): %v", s, at, got)
			}
		}
	}
}

// TestP71Mixed: P7.1, of tokens with others behind them.
func TestP71Mixed(t *testing.T) {
	for _, s := range mixed() {
		check(t, s)
	}
}

// TestP72: P7.2, of texts of tokens, right and wrong.
func TestP72(t *testing.T) {
	for _, l := range [][]string{mixed(), quoted(), rows()} {
		for _, s := range l {
			got, end, e := token.All(s)
			want, at, code := everything(s)
			if !slices.Equal(got, want) || end != at || e != code {
				t.Fatalf("All(%q): %v %d %d, not %v %d %d", s, got, end, e, want, at, code)
			}
		}
	}
}

// TestP72Written: P7.2, written out.
func TestP72Written(t *testing.T) {
	for _, x := range []struct {
		s  string
		l  []api.Token
		at int
		e  api.Errno
	}{
		{"", []api.Token{{}}, 0, 0},
		{" \n", []api.Token{{At: 2, End: 2}}, 2, 0},
		{" -0,\"a\" ", []api.Token{{Kind: 8, At: 1, End: 3}, {Kind: 6, At: 3, End: 4}, {Kind: 7, At: 4, End: 7, S: "a"}, {At: 8, End: 8}}, 8, 0},
		{"]null[", []api.Token{{Kind: 2, End: 1}, {Kind: 9, At: 1, End: 5, S: "null"}, {Kind: 1, At: 5, End: 6}, {At: 6, End: 6}}, 6, 0},
		{"1true", []api.Token{{Kind: 8, End: 1, N: 1}, {Kind: 9, At: 1, End: 5, S: "true"}, {At: 5, End: 5}}, 5, 0},
		{"{: 1.5,", []api.Token{{Kind: 3, End: 1}, {Kind: 5, At: 1, End: 2}}, 3, api.ErrNum},
		{"} \"a\\", []api.Token{{Kind: 4, End: 1}}, 4, api.ErrForm},
		{"12 trueish 1.5", []api.Token{{Kind: 8, End: 2, N: 12}}, 3, api.ErrForm},
		{"@", nil, 0, api.ErrForm},
		{"[ \xff", []api.Token{{Kind: 1, End: 1}}, 2, api.ErrForm},
	} {
		if l, at, e := token.All(x.s); !slices.Equal(l, x.l) || at != x.at || e != x.e {
			t.Errorf("All(%q): %v %d %d", x.s, l, at, e)
		}
	}
}

// TestP72Long: P7.2, of long texts, in no more than what goes with how long they are.
func TestP72Long(t *testing.T) {
	const n = 1 << 18
	for _, x := range []struct {
		s    string
		most int
		at   int
		e    api.Errno
	}{
		{strings.Repeat("[", n), n + 1, n, 0}, {strings.Repeat(" ", n), 1, n, 0}, {strings.Repeat("1,", n), 2*n + 1, 2 * n, 0}, {strings.Repeat(`"" `, n), n + 1, 3 * n, 0},
		{`"` + strings.Repeat("a", n) + `"`, 2, n + 2, 0}, {`"` + strings.Repeat(`\ud83d\ude00`, n) + `"`, 2, 12*n + 2, 0}, {`"` + strings.Repeat("a\\n", n) + `"`, 2, 3*n + 2, 0},
		{`"` + strings.Repeat("a", n), 0, n + 1, api.ErrForm}, {strings.Repeat("1", n), 0, 0, api.ErrNum}, {strings.Repeat("0", n), 0, 0, api.ErrForm}, {strings.Repeat("t", n), 0, 0, api.ErrForm}, {strings.Repeat("true ", n) + "x", n, 5 * n, api.ErrForm},
	} {
		if l, at, e := token.All(x.s); len(l) != x.most || at != x.at || e != x.e {
			t.Errorf("%.10q and so on: %d tokens, %d, %d", x.s, len(l), at, e)
		}
	}
}

// TestP72New: P7.2, an answer is new memory, its spare room too.
func TestP72New(t *testing.T) {
	for _, s := range []string{"[1,\"a\"]", "[1,\"a\"] @"} {
		a, _, _ := token.All(s)
		b, _, _ := token.All(s)
		want := slices.Clone(b)
		for i := range a[:cap(a)] {
			a[:cap(a)][i].Kind = 77
		}
		if c, _, _ := token.All(s); !slices.Equal(b, want) || !slices.Equal(c, want) {
			t.Errorf("%q: shared: %v, %v", s, b, c)
		}
	}
}

// TestP72Same: P7.2, what comes of a text is the same each time.
func TestP72Same(t *testing.T) {
	const s = `{"a\u0041":[1,-2,true]} tru`
	first, at, e := token.All(s)
	for range 5 {
		if l, end, code := token.All(s); !slices.Equal(l, first) || end != at || code != e {
			t.Fatal(l, end, code)
		}
	}
}

// whole are texts to quote, valid and not.
func whole() []string {
	l := joined(4, "a", `"`, `\`, "\x00", "\x1f", "\x7f", "\u00e9", "\U0001f600", "\xff", "\xed\xa0\x80", "n", "/")
	for i := range 256 {
		for j := range 256 {
			l = append(l, string([]byte{byte(i), byte(j)}))
		}
		l = append(l, string([]byte{byte(i)}))
	}
	return append(l, strings.Repeat("a\"\u20ac\n", 1000), strings.Repeat("b", 1<<16)+"\xc3")
}

// inQuotes is a text's JSON, by the chapter's words.
func inQuotes(s string) string {
	if !utf8.ValidString(s) {
		return ""
	}
	q := `"`
	for _, r := range s {
		switch {
		case r == '"' || r == '\\':
			q += `\` + string(r)
		case r < 32:
			q += fmt.Sprintf(`\u00%02x`, r)
		default:
			q += string(r)
		}
	}
	return q + `"`
}

// TestP73: P7.3, of texts of all kinds.
func TestP73(t *testing.T) {
	for _, s := range whole() {
		if got, want := token.Quote(s), inQuotes(s); got != want {
			t.Fatalf("Quote(%.40q): %.40q, not %.40q", s, got, want)
		}
	}
}

// TestP73Written: P7.3, written out.
func TestP73Written(t *testing.T) {
	for s, want := range map[string]string{
		"": `""`, "a": `"a"`, `"`: `"\""`, `\`: `"\\"`, "/": `"/"`, "\n": `"\u000a"`, "\t\r\b\f": `"\u0009\u000d\u0008\u000c"`, "\x00": `"\u0000"`, "\x0f\x10\x1f\x20": `"\u000f\u0010\u001f "`, "\x7f": "\"\x7f\"", "<>&'": `"<>&'"`, "\u2028\ufffd\u20ac": "\"\u2028\ufffd\u20ac\"", `\n`: `"\\n"`, `\u0041`: `"\\u0041"`,
		"\xff": "", "a\xc3": "", "\xc0\x80": "", "\xed\xa0\x80": "", "\xf4\x90\x80\x80": "", "ok\x80ok": "",
	} {
		if got := token.Quote(s); got != want {
			t.Errorf("Quote(%q): %s, not %s", s, got, want)
		}
	}
}

// TestP74Quoted: P7.4, what is quoted is one Text that means it, whatever stands around it.
func TestP74Quoted(t *testing.T) {
	texts := whole()
	for c := range rune(0x11000) {
		if utf8.ValidRune(c) {
			texts = append(texts, string(c))
		}
	}
	for _, s := range texts {
		q := token.Quote(s)
		if (q != "") != utf8.ValidString(s) {
			t.Fatalf("Quote(%.40q): %.40q", s, q)
		}
		if q == "" {
			continue
		}
		l, end, e := token.All(q)
		if want := []api.Token{{Kind: api.Text, End: len(q), S: s}, {At: len(q), End: len(q)}}; !slices.Equal(l, want) || end != len(q) || e != api.OK {
			t.Fatalf("%.40q, quoted: %v %d %d", s, l, end, e)
		}
		if got := next("1 "+q+q, 1); got != (told{t: api.Token{Kind: api.Text, At: 2, End: 2 + len(q), S: s}, at: 2 + len(q)}) {
			t.Fatalf("%.40q, quoted, others around it: %v", s, got)
		}
	}
}

// TestP74Order: P7.4, tokens stand in order, blanks alone between them, none longer than what is left; what a Text means, quoted, means the same.
func TestP74Order(t *testing.T) {
	for _, s := range append(mixed(), quoted()...) {
		l, end, e := token.All(s)
		last := 0
		for i, x := range l {
			if x.At < last || x.End < x.At || x.End > len(s) || strings.Trim(s[last:x.At], " \t\n\r") != "" || (x.At == x.End) != (x.Kind == api.End) {
				t.Fatalf("%q: token %d: %v", s, i, x)
			}
			last = x.End
			if x.Kind == api.Text && next(token.Quote(x.S), 0).t.S != x.S {
				t.Fatalf("%q: means %q, quoted %q", s, x.S, token.Quote(x.S))
			}
		}
		if ends := len(l) > 0 && l[len(l)-1].Kind == api.End; ends != (e == api.OK) || e == api.OK && end != len(s) || end < last || end > len(s) {
			t.Fatalf("%q: %v %d %d", s, l, end, e)
		}
	}
}
