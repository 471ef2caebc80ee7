package vtext_test

import (
	"fmt"
	"math"
	"math/big"
	"math/rand/v2"
	"regexp"
	"runtime"
	"slices"
	"strconv"
	"strings"
	"testing"
	"unicode/utf8"
	"unsafe"

	"douane/api"
	"douane/value"
	"douane/vtext"
)

// Values, written short.
var (
	null = api.Value{}
	no   = api.Value{Kind: api.Bool}
	yes  = api.Value{Kind: api.Bool, N: 1}
)

func num(n int64) api.Value                { return api.Value{Kind: api.Int, N: n} }
func sym(s string) api.Value               { return api.Value{Kind: api.Sym, S: s} }
func str(s string) api.Value               { return api.Value{Kind: api.Str, S: s} }
func list(l ...api.Value) api.Value        { return api.Value{Kind: api.List, L: l} }
func times(n int, v api.Value) []api.Value { return slices.Repeat([]api.Value{v}, n) }

// nest is a value in so many lists.
func nest(n int, v api.Value) api.Value {
	for range n {
		v = list(v)
	}
	return v
}

// many is a text so many times, a blank between two.
func many(n int, s string) string { return strings.Join(slices.Repeat([]string{s}, n), " ") }

// row is the text of a list of so many values of a text.
func row(n int, s string) string { return "[" + many(n, s) + "]" }

// shape is all that there is in a value, nil and empty the same.
func shape(v api.Value) string {
	var b strings.Builder
	fmt.Fprintf(&b, "%d,%d,%q(", v.Kind, v.N, v.S)
	for _, x := range v.L {
		b.WriteString(shape(x))
	}
	return b.String() + ")"
}

// told is what comes of a call.
type told struct {
	v  string
	at int
	e  api.Errno
}

// scan is what Scan answers.
func scan(s string, at int) told {
	v, behind, e := vtext.Scan(s, at)
	return told{shape(v), behind, e}
}

// parse is what Parse answers.
func parse(s string) told {
	v, at, e := vtext.Parse(s)
	return told{shape(v), at, e}
}

// good is what comes of a value, and of the place behind it.
func good(v api.Value, at int) told { return told{shape(v), at, api.OK} }

// bad is what comes of a text that is wrong at a place.
func bad(at int, e api.Errno) told { return told{shape(null), at, e} }

var (
	lettersRow = regexp.MustCompile(`^[A-Za-z]+`)
	nameRow    = regexp.MustCompile(`^[A-Za-z0-9_-]*`)
	name       = regexp.MustCompile(`^[A-Za-z][A-Za-z0-9_-]{0,39}$`)
	numberRow  = regexp.MustCompile(`^-?[0-9]*`)
	number     = regexp.MustCompile(`^(0|-?[1-9][0-9]*)$`)
	strRow     = regexp.MustCompile(`(?s)^"([^"\\]|\\["\\])*`)
)

// single is what comes of the value at a place that is no list, by the chapter's words and the library's patterns.
func single(s string, at int) (api.Value, int, api.Errno) {
	rest := s[at:]
	switch {
	case lettersRow.MatchString(rest):
		word := lettersRow.FindString(rest)
		v, ok := map[string]api.Value{"null": null, "true": yes, "false": no}[word]
		if !ok {
			return null, at, api.ErrForm
		}
		return v, at + len(word), api.OK
	case strings.HasPrefix(rest, "'"):
		if n := nameRow.FindString(rest[1:]); name.MatchString(n) {
			return sym(n), at + 1 + len(n), api.OK
		}
		return null, at + 1, api.ErrForm
	case strRow.MatchString(rest):
		means := strRow.FindString(rest)
		end := at + len(means)
		if end == len(s) || s[end] != '"' {
			return null, end, api.ErrForm
		}
		return str(strings.NewReplacer(`\\`, `\`, `\"`, `"`).Replace(means[1:])), end + 1, api.OK
	}
	digits := numberRow.FindString(rest)
	if !number.MatchString(digits) {
		return null, at, api.ErrForm
	}
	if n, _ := new(big.Int).SetString(digits, 10); n.IsInt64() {
		return num(n.Int64()), at + len(digits), api.OK
	}
	return null, at, api.ErrNum
}

// inBounds says whether a value that was read is right: how many items, nodes and bytes it has, and whether its texts are valid.
func inBounds(v api.Value) bool {
	nodes, ok := 0, true
	var walk func(v api.Value)
	walk = func(v api.Value) {
		nodes++
		ok = ok && len(v.L) <= 20 && len(v.S) <= 200 && utf8.ValidString(v.S)
		for _, x := range v.L {
			walk(x)
		}
	}
	walk(v)
	return ok && nodes <= 100
}

// stands is what Scan must answer: lists are gone through without a call that calls itself, by what is open and what may stand there.
func stands(s string, first int) told {
	if first < 0 || first > len(s) {
		return bad(first, api.ErrArg)
	}
	at := first
	var open []api.Value
	ready := true // a value may stand there
	for {
		if at == len(s) {
			return bad(at, api.ErrForm)
		}
		var v api.Value
		e := api.OK
		last := len(open) - 1
		switch x := s[at]; {
		case ready && x == '[' && len(open) == 4:
			return bad(at, api.ErrDeep)
		case ready && x == '[':
			open = append(open, list())
			at++
			continue
		case !ready && x == ' ':
			ready = true
			at++
			continue
		case x == ']' && last >= 0 && (!ready || s[at-1] == '['):
			v, open = open[last], open[:last]
			at++
		case !ready:
			return bad(at, api.ErrForm)
		default:
			if v, at, e = single(s, at); e != api.OK {
				return bad(at, e)
			}
		}
		if len(open) == 0 {
			if !inBounds(v) {
				return bad(first, api.ErrLong)
			}
			return good(v, at)
		}
		outer := &open[len(open)-1]
		outer.L = append(slices.Clip(outer.L), v)
		ready = false
	}
}

// everything is what Parse must answer.
func everything(s string) told {
	x := stands(s, 0)
	if x.e == api.OK && x.at < len(s) {
		return bad(x.at, api.ErrForm)
	}
	return x
}

// joined are all texts of up to so many of some parts, one behind the other.
func joined(most int, parts ...string) []string {
	l := []string{""}
	last := l
	for range most {
		var more []string
		for _, s := range last {
			for _, p := range parts {
				more = append(more, s+p)
			}
		}
		l, last = append(l, more...), more
	}
	return l
}

// texts are short texts, right and wrong ones, of bytes that mean something, and of longer parts.
func texts() []string {
	return slices.Concat(
		joined(5, "[", "]", " ", "'", `"`, `\`, "a", "1", "-"),
		joined(5, "[", "]", " ", "null", "'b", `"c"`, "-20", "[["),
		joined(4, "true", "false", "null", "True", "nul", "l", "'", "_", "0", "\xc3\xa9", " "),
		joined(4, "9223372036854775807", "9223372036854775808", "-", "0", "12", ".", "]", " "),
		joined(5, `"`, `\"`, `\\`, `\`, "n", "\n", "\xff"),
	)
}

// TestP141Values: P14.1, values' texts written out, alone and with much ahead and behind that doesn't belong to them.
func TestP141Values(t *testing.T) {
	for s, v := range map[string]api.Value{
		"null": null, "true": yes, "false": no,
		"0": num(0), "7": num(7), "-12": num(-12), "1002003": num(1002003), "9223372036854775807": num(math.MaxInt64), "-9223372036854775808": num(math.MinInt64),
		"'a": sym("a"), "'Z": sym("Z"), "'a-1_B": sym("a-1_B"), "'null": sym("null"), "'a-": sym("a-"), "'z0": sym("z0"), "'" + strings.Repeat("n", 40): sym(strings.Repeat("n", 40)),
		`""`: str(""), `"a b"`: str("a b"), `"null"`: str("null"), `"'a [1] "`: str("'a [1] "), `"\""`: str(`"`), `"\\"`: str(`\`), `"\\\""`: str(`\"`), `"\"\\"`: str(`"\`), `"\\\\"`: str(`\\`), `"\\n"`: str(`\n`), `"a \"b\""`: str(`a "b"`),
		"\"\n\t\x00\x7f\u00e9\u20ac\U0010FFFF\"": str("\n\t\x00\x7f\u00e9\u20ac\U0010FFFF"),
		"[]":                                     list(), "[1]": list(num(1)), "[1 'a]": list(num(1), sym("a")), "[null true false]": list(null, yes, no), "[[]]": list(list()), "[[] []]": list(list(), list()), "[[[[]]]]": nest(3, list()), "[[[[5]]] [[[6]]]]": list(nest(3, num(5)), nest(3, num(6))),
		`[1 'a ["x y" null] true]`: list(num(1), sym("a"), list(str("x y"), null), yes), `["]" "[" " "]`: list(str("]"), str("["), str(" ")), "['a-1 -1]": list(sym("a-1"), num(-1)), `[1 'a "b" "\""]`: list(num(1), sym("a"), str("b"), str(`"`)),
	} {
		if got := parse(s); got != good(v, len(s)) {
			t.Errorf("Parse(%q): %v", s, got)
		}
		for _, ahead := range []string{"", "x", "[", "\"", "'", "null", "1", "\\", " ", "[[[[[", "\xff"} {
			for _, behind := range []string{"", " ", "]", "[", "\"", "'", "\\", ",", "\x00", "\u00e9", "[[[[[", "\" x"} {
				if got := scan(ahead+s+behind, len(ahead)); got != good(v, len(ahead+s)) {
					t.Errorf("Scan(%q, %d): %v", ahead+s+behind, len(ahead), got)
				}
			}
		}
	}
}

// TestP141Wrong: P14.1, what is wrong, written out, and a few that nearly are, from the beginning on, and with something ahead.
func TestP141Wrong(t *testing.T) {
	for _, x := range []struct {
		s  string
		at int
		e  api.Errno
	}{
		{"", 0, api.ErrForm}, {" ", 0, api.ErrForm}, {" 1", 0, api.ErrForm}, {"]", 0, api.ErrForm}, {"\\", 0, api.ErrForm}, {"+1", 0, api.ErrForm}, {"_", 0, api.ErrForm}, {",", 0, api.ErrForm}, {"\x00", 0, api.ErrForm}, {"\xff", 0, api.ErrForm}, {"\u00e9", 0, api.ErrForm}, {"\n1", 0, api.ErrForm}, {".5", 0, api.ErrForm}, {"{}", 0, api.ErrForm},
		// Letters that are no such word, where they begin.
		{"n", 0, api.ErrForm}, {"nul", 0, api.ErrForm}, {"nulL", 0, api.ErrForm}, {"Null", 0, api.ErrForm}, {"NULL", 0, api.ErrForm}, {"nullx", 0, api.ErrForm}, {"nullX", 0, api.ErrForm}, {"nulltrue", 0, api.ErrForm}, {"truefalse", 0, api.ErrForm}, {"falsE", 0, api.ErrForm}, {"tru e", 0, api.ErrForm}, {"a", 0, api.ErrForm}, {"Z", 0, api.ErrForm}, {"xnull", 0, api.ErrForm}, {"truez]", 0, api.ErrForm}, {"falseA", 0, api.ErrForm}, {"[nul", 1, api.ErrForm}, {"[nulls]", 1, api.ErrForm}, {"[1 tru]", 3, api.ErrForm}, {"[[] x", 4, api.ErrForm},
		// A ' where the name isn't one, behind it.
		{"'", 1, api.ErrForm}, {"'1", 1, api.ErrForm}, {"'1a", 1, api.ErrForm}, {"'-", 1, api.ErrForm}, {"'-a", 1, api.ErrForm}, {"'_", 1, api.ErrForm}, {"'_a", 1, api.ErrForm}, {"' a", 1, api.ErrForm}, {"''a", 1, api.ErrForm}, {"'\u00e9", 1, api.ErrForm}, {"'\"", 1, api.ErrForm}, {"[']", 2, api.ErrForm}, {"['a ']", 5, api.ErrForm}, {"['", 2, api.ErrForm}, {"'" + strings.Repeat("n", 41), 1, api.ErrForm}, {"'" + strings.Repeat("n", 40) + "_", 1, api.ErrForm}, {"[1 '" + strings.Repeat("n", 500) + "]", 4, api.ErrForm},
		// A number, where it begins.
		{"-", 0, api.ErrForm}, {"--1", 0, api.ErrForm}, {"-a", 0, api.ErrForm}, {"- 1", 0, api.ErrForm}, {"01", 0, api.ErrForm}, {"00", 0, api.ErrForm}, {"007 ", 0, api.ErrForm}, {"-0", 0, api.ErrForm}, {"-01", 0, api.ErrForm}, {"[-]", 1, api.ErrForm}, {"[01]", 1, api.ErrForm}, {"[1 -0]", 3, api.ErrForm}, {"[1 -", 3, api.ErrForm}, {"099999999999999999999", 0, api.ErrForm},
		{"9223372036854775808", 0, api.ErrNum}, {"-9223372036854775809", 0, api.ErrNum}, {"18446744073709551616", 0, api.ErrNum}, {"99999999999999999999x", 0, api.ErrNum}, {"[9223372036854775808]", 1, api.ErrNum}, {"[0 -9223372036854775809", 3, api.ErrNum},
		// A \ that stands ahead of another byte, or is the last one of all, at it.
		{`"\`, 1, api.ErrForm}, {`"a\`, 2, api.ErrForm}, {`"\n"`, 1, api.ErrForm}, {`"a\n"`, 2, api.ErrForm}, {`"\u0041"`, 1, api.ErrForm}, {`"\/"`, 1, api.ErrForm}, {`"\ "`, 1, api.ErrForm}, {`"\'"`, 1, api.ErrForm}, {"\"\\\x00\"", 1, api.ErrForm}, {`"\\\`, 3, api.ErrForm}, {`"\\\n"`, 3, api.ErrForm}, {`"\"\x`, 3, api.ErrForm}, {`["\`, 2, api.ErrForm}, {`[1 "ab\c"]`, 6, api.ErrForm}, {"\"\xff\\n\"", 2, api.ErrForm},
		// Where the text ends ahead.
		{`"`, 1, api.ErrForm}, {`"a`, 2, api.ErrForm}, {`"\"`, 3, api.ErrForm}, {`"a\\\"`, 6, api.ErrForm}, {"\"\xff", 2, api.ErrForm}, {"\"\u00e9", 3, api.ErrForm}, {"[", 1, api.ErrForm}, {"[1", 2, api.ErrForm}, {"[1 ", 3, api.ErrForm}, {"[[", 2, api.ErrForm}, {"[[]", 3, api.ErrForm}, {"[[] ", 4, api.ErrForm}, {"[null", 5, api.ErrForm}, {"['a", 3, api.ErrForm}, {`["a`, 3, api.ErrForm}, {`["a"`, 4, api.ErrForm}, {"[[[[", 4, api.ErrForm}, {"[[[[]]]", 7, api.ErrForm}, {`"]`, 2, api.ErrForm},
		// Another byte than one blank, or a ].
		{"[ ]", 1, api.ErrForm}, {"[ 1]", 1, api.ErrForm}, {"[1 ]", 3, api.ErrForm}, {"[1  2]", 3, api.ErrForm}, {"[1,2]", 2, api.ErrForm}, {"[1\t2]", 2, api.ErrForm}, {"[1\n2]", 2, api.ErrForm}, {"[1\u00a02]", 2, api.ErrForm}, {"[1 \t2]", 3, api.ErrForm}, {"[\n]", 1, api.ErrForm}, {"[1'a]", 2, api.ErrForm}, {"['a'b]", 3, api.ErrForm}, {`["a""b"]`, 4, api.ErrForm}, {"[[][]]", 3, api.ErrForm}, {"[1[]]", 2, api.ErrForm}, {"[]", 2, api.OK}, {"[1-2]", 2, api.ErrForm}, {"[1.5]", 2, api.ErrForm}, {"[null1]", 5, api.ErrForm}, {"[null-]", 5, api.ErrForm}, {"['a\u00e9]", 3, api.ErrForm}, {"[1}", 2, api.ErrForm}, {"[1, 2]", 2, api.ErrForm}, {"[,1]", 1, api.ErrForm}, {"[1 ,2]", 3, api.ErrForm}, {"[1 ] 2]", 3, api.ErrForm}, {"[[1 ]]", 4, api.ErrForm}, {"[[1] ]", 5, api.ErrForm}, {"[[ ]]", 2, api.ErrForm}, {"[1\x00", 2, api.ErrForm},
		// Deeper than it may be; the first byte that can't be so counts.
		{"[[[[[", 4, api.ErrDeep}, {"[[[[[]]]]]", 4, api.ErrDeep}, {"[[[[[x", 4, api.ErrDeep}, {"[[[[[[[[", 4, api.ErrDeep}, {"[1 [[[[", 6, api.ErrDeep}, {"[[[[1 [", 6, api.ErrDeep}, {"[[[[] [[", 7, api.ErrDeep}, {"[[[[]]]] [", 8, api.OK}, {"[[[[1[", 5, api.ErrForm}, {"[[[[][", 5, api.ErrForm}, {"[[[[ [", 4, api.ErrForm}, {"[[[[x [", 4, api.ErrForm}, {"[[[['[", 5, api.ErrForm}, {"[[[[\"[", 6, api.ErrForm}, {"[[[[\"[\"]]] [[[[[]]]]]", 14, api.ErrDeep}, {"[[[[]] [[[]]]]]", 9, api.ErrDeep}, {"[99999999999999999999 [[[[", 1, api.ErrNum}, {"[[[[[99999999999999999999", 4, api.ErrDeep},
	} {
		for _, ahead := range []string{"", "[", "[[[[", "\"", "'", "null", "-", "\\", " ", "\xff"} {
			got := scan(ahead+x.s, len(ahead))
			if got.at != len(ahead)+x.at || got.e != x.e || x.e != api.OK && got.v != shape(null) {
				t.Errorf("Scan(%q, %d): %v, not %d %d", ahead+x.s, len(ahead), got, len(ahead)+x.at, x.e)
			}
		}
	}
}

// TestP141All: P14.1, each place of short texts, and those around, against a reader by the chapter's words.
func TestP141All(t *testing.T) {
	codes := map[api.Errno]int{}
	for _, s := range texts() {
		for at := -1; at <= min(len(s), 6)+1; at++ {
			got := scan(s, at)
			if want := stands(s, at); got != want {
				t.Fatalf("Scan(%q, %d): %v, not %v", s, at, got, want)
			}
			codes[got.e]++
		}
	}
	for _, e := range []api.Errno{api.OK, api.ErrArg, api.ErrForm, api.ErrDeep, api.ErrLong, api.ErrNum} {
		if codes[e] == 0 {
			t.Errorf("error %d never comes", e)
		}
	}
}

// TestP141Bytes: P14.1, each byte at each place of a text of all kinds of values: turned to it, or with it ahead.
func TestP141Bytes(t *testing.T) {
	const sample = `[null 'a-1 "x\"\\" -20 [true [false []] 0] ""]`
	for at := range len(sample) + 1 {
		for x := range 256 {
			b := string([]byte{byte(x)})
			l := []string{sample[:at] + b + sample[at:], sample[:at] + b}
			if at < len(sample) {
				l = append(l, sample[:at]+b+sample[at+1:])
			}
			for _, s := range l {
				for _, first := range []int{0, min(at, 1), at} {
					if got, want := scan(s, first), stands(s, first); got != want {
						t.Fatalf("Scan(%q, %d): %v, not %v", s, first, got, want)
					}
				}
			}
		}
	}
}

// TestP141Ends: P14.1, each byte behind what is a word, a name or a number: only one that goes on with it belongs to it.
func TestP141Ends(t *testing.T) {
	const letters = "ABCDEFGHIJKLMNOPQRSTUVWXYZabcdefghijklmnopqrstuvwxyz"
	for x := range 256 {
		b := string([]byte{byte(x)})
		for s, v := range map[string]api.Value{"null": null, "true": yes, "false": no} {
			want := good(v, len(s))
			if strings.Contains(letters, b) {
				want = bad(0, api.ErrForm)
			}
			if got := scan(s+b, 0); got != want {
				t.Errorf("Scan(%q, 0): %v, not %v", s+b, got, want)
			}
		}
		want := good(sym("q"), 2)
		if strings.Contains(letters+"0123456789_-", b) {
			want = good(sym("q"+b), 3)
		}
		if got := scan("'q"+b, 0); got != want {
			t.Errorf("Scan(%q, 0): %v, not %v", "'q"+b, got, want)
		}
		want = good(num(3), 1)
		if strings.Contains("0123456789", b) {
			want = good(num(30+int64(x-'0')), 2)
		}
		if got := scan("3"+b, 0); got != want {
			t.Errorf("Scan(%q, 0): %v, not %v", "3"+b, got, want)
		}
		want = bad(1, api.ErrForm)
		if b == `"` || b == `\` {
			want = good(str(b), 4)
		}
		if got := scan(`"\`+b+`"`, 0); got != want {
			t.Errorf("Scan(%q, 0): %v, not %v", `"\`+b+`"`, got, want)
		}
	}
}

// TestP141Places: P14.1, at places that are none, and at the last one.
func TestP141Places(t *testing.T) {
	for _, s := range []string{"", "1", "null", "[]", `"a"`, "'a", "x"} {
		for _, at := range []int{-1, -2, math.MinInt32, math.MinInt, len(s) + 1, len(s) + 2, math.MaxInt32, math.MaxInt - 1, math.MaxInt} {
			if got := scan(s, at); got != bad(at, api.ErrArg) {
				t.Errorf("Scan(%q, %d): %v", s, at, got)
			}
		}
		if got := scan(s, len(s)); got != bad(len(s), api.ErrForm) {
			t.Errorf("Scan(%q, %d): %v", s, len(s), got)
		}
	}
}

// bounds are texts that go as far as a right value may, each with one that goes beyond, of which all is read.
func bounds() map[string]string {
	x, euro := strings.Repeat("x", 200), strings.Repeat("\u20ac", 66)
	twenty, long := row(20, "1"), row(21, "1")
	return map[string]string{
		`"` + x + `"`:                         `"` + x + `x"`,
		`"` + euro + `ab"`:                    `"` + euro + `abc"`,
		`["` + x + `" ""]`:                    `["` + x + `x" ""]`,
		`["` + x + `" "y"]`:                   `["y" "` + x + `x"]`,
		`"` + strings.Repeat(`\"`, 200) + `"`: `"` + strings.Repeat(`\"`, 201) + `"`,
		`"` + strings.Repeat(`\\`, 200) + `"`: `"` + strings.Repeat(`\\`, 200) + `\""`,

		"\"\u00e9\ud7ff\U0010FFFF\"": "\"\xff\"",
		"\"\ufffd\"":                 "\"\xc3\"",
		"\"\x7f\"":                   "\"\x80\"",
		"\"\u0800\"":                 "\"\xed\xa0\x80\"",
		"\"\u0080\"":                 "\"\xc0\x80\"",
		"\"\U00010000\"":             "\"\xf4\x90\x80\x80\"",
		"\"a\\\"\"":                  "\"\xe2\\\"\x82\xac\"",
		"[1 \"\u00e9\" 2]":           "[1 \"\xa9\" 2]",
		"[[[[\"\u00e9\"]]]]":         "[[[[\"\xff\"]]]]",

		twenty:                                 long,
		row(20, "[]"):                          row(21, "[]"),
		"[[[" + twenty + "]]]":                 "[[[" + long + "]]]",
		"[" + twenty + " " + row(2, "1") + "]": "[" + row(2, "1") + " " + long + "]",

		// These have 100 nodes, and 101.
		"[" + many(4, twenty) + " " + row(14, "1") + "]":     "[" + many(4, twenty) + " " + row(15, "1") + "]",
		"[" + row(14, "null") + " " + many(4, twenty) + "]":  "[" + row(15, "null") + " " + many(4, twenty) + "]",
		"[" + many(19, row(4, `""`)) + " [1 2 3]]":           row(20, row(4, `""`)),
		"[[[" + many(4, twenty) + "] " + row(12, "1") + "]]": "[[[" + many(4, twenty) + "] " + row(13, "1") + "]]",
	}
}

// TestP141Long: P14.1, what is read, but isn't right: the place where it began, whatever in it isn't.
func TestP141Long(t *testing.T) {
	for right, wrong := range bounds() {
		for _, ahead := range []string{"", "x", "[", "\"", "[1 "} {
			for _, behind := range []string{"", "x", " 1", "]", "\xff"} {
				first := len(ahead)
				v, at, e := vtext.Scan(ahead+right+behind, first)
				if at != first+len(right) || e != api.OK || value.Text(v) != right {
					t.Errorf("Scan(%q, %d): %v %d %d", ahead+right+behind, first, v, at, e)
				}
				if got := scan(ahead+wrong+behind, first); got != bad(first, api.ErrLong) {
					t.Errorf("Scan(%q, %d): %v", ahead+wrong+behind, first, got)
				}
			}
		}
	}
}

// TestP141LongLast: P14.1, what isn't right is told only if all of it is read.
func TestP141LongLast(t *testing.T) {
	for _, wrong := range bounds() {
		for _, more := range []string{"", "x", "]", " ]", " 01]", " 9223372036854775808]", " [[[[", " 1] x"} {
			s := "[" + wrong + more
			if got, want := scan(s, 0), stands(s, 0); got != want || want.e == api.OK {
				t.Errorf("Scan(%q, 0): %v, not %v", s, got, want)
			}
		}
	}
	row21, row300 := row(21, "1"), row(300, "1")
	for s, want := range map[string]told{
		"[\"\xff\"": bad(4, api.ErrForm), "[\"\xff\",": bad(4, api.ErrForm), "[\"\xff\" x]": bad(5, api.ErrForm), "[\"\xff\" 9223372036854775808]": bad(5, api.ErrNum), "[\"\xff\" [[[[]]]]]": bad(8, api.ErrDeep), "[\"\xff\"]": bad(0, api.ErrLong),
		row21[:42]: bad(42, api.ErrForm), row21[:42] + ",": bad(42, api.ErrForm), row21[:42] + " [[[[": bad(46, api.ErrDeep), row21: bad(0, api.ErrLong),
		"[" + row300 + "  ]": bad(603, api.ErrForm), "[" + row300 + " '1]": bad(604, api.ErrForm), "[" + row300 + " 9223372036854775808": bad(603, api.ErrNum), "[" + row300 + "]": bad(0, api.ErrLong),
	} {
		if got := scan(s, 0); got != want {
			t.Errorf("Scan(%q, 0): %v, not %v", s, got, want)
		}
	}
}

// TestP141Great: P14.1, texts far beyond all limits, right but for that, or wrong at their ends.
func TestP141Great(t *testing.T) {
	const n = 300000
	wide, words := row(n, "1"), row(n, "[null 'a [\"b\" []]]")
	long := `"` + strings.Repeat(`\\a`, n) + `"`
	for _, s := range []string{wide, words, long, row(1000, row(1000, "[]")), "[[[" + wide + "]]]", row(999, "0"), row(1000, "0"), "[" + long + " " + wide + "]"} {
		if got := scan(s, 0); got != bad(0, api.ErrLong) {
			t.Errorf("%.20q of %d bytes: %v", s, len(s), got)
		}
		cut := s[:len(s)-1]
		if got := scan(cut, 0); got != bad(len(cut), api.ErrForm) {
			t.Errorf("%.20q of %d bytes, cut: %v", s, len(s), got)
		}
	}
	for s, want := range map[string]told{
		strings.Repeat("[", n):                       bad(4, api.ErrDeep),
		strings.Repeat("[", n) + "1":                 bad(4, api.ErrDeep),
		"'" + strings.Repeat("a", n):                 bad(1, api.ErrForm),
		strings.Repeat("null", n):                    bad(0, api.ErrForm),
		strings.Repeat("9", n):                       bad(0, api.ErrNum),
		"-" + strings.Repeat("0", n):                 bad(0, api.ErrForm),
		wide[:len(wide)-1] + " [[[[]]]]]":            bad(len(wide)+3, api.ErrDeep),
		wide[:len(wide)-1] + " 9223372036854775808]": bad(len(wide), api.ErrNum),
		strings.Repeat(" ", n):                       bad(0, api.ErrForm),
	} {
		if got := scan(s, 0); got != want {
			t.Errorf("%.20q of %d bytes: %v, not %v", s, len(s), got, want)
		}
	}
}

// TestP141Room: a text of far too many values takes no room for all of them.
func TestP141Room(t *testing.T) {
	const n = 300000
	for _, s := range []string{row(n, "1"), "[" + row(n, "[]") + "]", "[" + many(n/3, "[1 2]") + "]"} {
		var ahead, behind runtime.MemStats
		runtime.ReadMemStats(&ahead)
		got := scan(s, 0)
		runtime.ReadMemStats(&behind)
		if room := behind.TotalAlloc - ahead.TotalAlloc; got != bad(0, api.ErrLong) || room > n/2*uint64(unsafe.Sizeof(null)) {
			t.Errorf("%.20q of %d bytes: %v, %d bytes", s, len(s), got, room)
		}
	}
}

// TestP141New: an answer is new memory, its texts too, and none of its lists share any.
func TestP141New(t *testing.T) {
	s := `[[1 2 3] 'name "text" [4 5 "a\"b" 'b] [[] [6]]]`
	first := uintptr(unsafe.Pointer(unsafe.StringData(s)))
	var lists [][]api.Value
	var walk func(v api.Value)
	walk = func(v api.Value) {
		at := uintptr(unsafe.Pointer(unsafe.StringData(v.S)))
		if v.S != "" && at >= first && at < first+uintptr(len(s)) {
			t.Errorf("%q is a part of what was handed in", v.S)
		}
		lists = append(lists, v.L)
		for _, x := range v.L {
			walk(x)
		}
	}
	v, _, e := vtext.Parse(s)
	walk(v)
	was := shape(v)
	for _, l := range lists {
		for range 5 {
			l = append(l, str("over"))
		}
	}
	if e != api.OK || shape(v) != was {
		t.Error(shape(v), e)
	}
	v.L[0].L[0] = num(77)
	if got := parse(s); got.v != was {
		t.Error(got)
	}
}

// TestP142All: P14.2, short texts against a reader by the chapter's words.
func TestP142All(t *testing.T) {
	for _, s := range texts() {
		if got, want := parse(s), everything(s); got != want {
			t.Fatalf("Parse(%q): %v, not %v", s, got, want)
		}
	}
}

// TestP142Left: P14.2, each byte behind a value's text that doesn't belong to it, where it stands, whatever is behind it.
func TestP142Left(t *testing.T) {
	for s, on := range map[string]string{"null": `^[A-Za-z]`, "false": `^[A-Za-z]`, "'a": `^[\w-]`, "12": `^[0-9]`, `"a"`: `^$`, `"\""`: `^$`, "[]": `^$`, "[1 'a]": `^$`, "[[[[]]]]": `^$`} {
		belongs := regexp.MustCompile(on)
		for x := range 256 {
			b := string([]byte{byte(x)})
			if belongs.MatchString(b) {
				continue
			}
			for _, more := range []string{"", b, "1", "]", "[[[[[", "99999999999999999999", "\xff"} {
				if got := parse(s + b + more); got != bad(len(s), api.ErrForm) {
					t.Errorf("Parse(%q): %v, not at %d", s+b+more, got, len(s))
				}
			}
		}
		if _, at, e := vtext.Parse(s); at != len(s) || e != api.OK {
			t.Errorf("Parse(%q): %d %d", s, at, e)
		}
	}
}

// TestP142Wrong: P14.2, what Scan says is wrong, ahead of what is left.
func TestP142Wrong(t *testing.T) {
	for s, want := range map[string]told{
		"": bad(0, api.ErrForm), " null": bad(0, api.ErrForm), "nullx": bad(0, api.ErrForm), "'": bad(1, api.ErrForm), "'1 2": bad(1, api.ErrForm), "01 2": bad(0, api.ErrForm), "9223372036854775808 x": bad(0, api.ErrNum), `"a\n" x`: bad(2, api.ErrForm), "[1,2] x": bad(2, api.ErrForm), "[[[[[]]]]] x": bad(4, api.ErrDeep), "[1": bad(2, api.ErrForm),
		"null ": bad(4, api.ErrForm), "null null": bad(4, api.ErrForm), "1 2": bad(1, api.ErrForm), "1.5": bad(1, api.ErrForm), "12a": bad(2, api.ErrForm), "1-2": bad(1, api.ErrForm), "'a b": bad(2, api.ErrForm), "'a'b": bad(2, api.ErrForm), `"a"b`: bad(3, api.ErrForm), `"a""b"`: bad(3, api.ErrForm), "[]]": bad(2, api.ErrForm), "[] []": bad(2, api.ErrForm), "[1]\n": bad(3, api.ErrForm), "true1": bad(4, api.ErrForm), "null\x00": bad(4, api.ErrForm),
		"\"\xff\"": bad(0, api.ErrLong), "\"\xff\"x": bad(0, api.ErrLong), row(21, "1"): bad(0, api.ErrLong), row(21, "1") + " ": bad(0, api.ErrLong),
	} {
		if got := parse(s); got != want {
			t.Errorf("Parse(%q): %v, not %v", s, got, want)
		}
	}
	for _, wrong := range bounds() {
		if got := parse(wrong); got != bad(0, api.ErrLong) {
			t.Errorf("Parse(%q): %v", wrong, got)
		}
	}
}

// flats are right values that aren't lists.
func flats() []api.Value {
	l := []api.Value{null, yes, no}
	for _, n := range []int64{0, 1, -1, 9, 10, -10, 1 << 32, math.MaxInt64, math.MaxInt64 - 1, math.MinInt64, math.MinInt64 + 1} {
		l = append(l, num(n))
	}
	for _, s := range []string{"a", "Z", "a-", "a_1", "null", "true", "x9-_", strings.Repeat("Q", 40)} {
		l = append(l, sym(s), str(s))
	}
	for _, s := range []string{"", " ", "\"", "\\", "\\\"", "\"\\", "\\\\", "\"\"", "'a", "[]", "[1 2]", "]", "\x00", "\n", "a\tb", "1", "\\n", "\u00e9", "\ufffd", "\U0010FFFF", strings.Repeat("\"", 200), strings.Repeat("\\", 200), strings.Repeat("\u20ac", 66) + "ab"} {
		l = append(l, str(s))
	}
	for c := range rune(0x500) {
		l = append(l, str(string(c)))
	}
	return l
}

// grown is a right value, so deep at most, of at most so many nodes, as a source of numbers has it.
func grown(r *rand.Rand, few []api.Value, deep, nodes int) (api.Value, int) {
	if deep == 0 || nodes < 2 || r.IntN(3) == 0 {
		return few[r.IntN(len(few))], 1
	}
	v, has := list(), 1
	for range r.IntN(api.MaxItems + 1) {
		if has == nodes {
			break
		}
		x, n := grown(r, few, deep-1, nodes-has)
		v.L, has = append(v.L, x), has+n
	}
	return v, has
}

// again checks that a right value's text is read as it, alone and where it stands.
func again(t *testing.T, v api.Value) {
	t.Helper()
	s := value.Text(v)
	if got := parse(s); got != good(v, len(s)) || !value.Right(v) {
		t.Fatalf("Parse(%q): %v, not %s", s, got, shape(v))
	}
	if got := scan("["+s+"]", 1); got != good(v, 1+len(s)) {
		t.Fatalf("Scan(%q, 1): %v", "["+s+"]", got)
	}
}

// TestP143Right: P14.3, a right value's text is read as it.
func TestP143Right(t *testing.T) {
	few := flats()
	for _, v := range few {
		again(t, v)
		for n := range 5 {
			again(t, nest(n, v))
		}
		again(t, list(v, v))
		again(t, list(list(), v, list(v, num(1)), v, nest(3, v)))
		again(t, list(times(20, v)...))
		again(t, list(append(times(4, list(times(20, v)...)), list(times(14, v)...))...))
	}
	r := rand.New(rand.NewPCG(14, 3))
	most := 0
	for range 3000 {
		v, n := grown(r, few, api.MaxDeep, api.MaxNodes)
		most = max(most, n)
		again(t, v)
	}
	if most != api.MaxNodes {
		t.Error(most)
	}
}

// TestP143Read: P14.3, what is read is right, and its text is what it was read of.
func TestP143Read(t *testing.T) {
	check := func(s string, at int) bool {
		v, behind, e := vtext.Scan(s, at)
		if e != api.OK {
			return false
		}
		if !value.Right(v) || value.Text(v) != s[at:behind] {
			t.Fatalf("Scan(%q, %d): %v, whose text is %q", s, at, v, value.Text(v))
		}
		return true
	}
	n := 0
	for _, s := range texts() {
		for at := range len(s) {
			if check(s, at) {
				n++
			}
		}
	}
	if n < 1000 {
		t.Error(n)
	}
	// Texts of right values, with a byte turned, away, or another one ahead.
	few := flats()
	r := rand.New(rand.NewPCG(3, 14))
	const odd = `[]' "\-0aZ19nul_` + "\x00\xff\xc3\xa9"
	for range 3000 {
		v, _ := grown(r, few, 3, 12)
		b := []byte(value.Text(v))
		for range 1 + r.IntN(2) {
			at, x := r.IntN(len(b)), odd[r.IntN(len(odd))]
			switch r.IntN(3) {
			case 0:
				b[at] = x
			case 1:
				b = slices.Insert(b, at, x)
			case 2:
				b = append(slices.Delete(b, at, at+1), ' ')
			}
		}
		s := string(b)
		check(s, 0)
		if got, want := scan(s, 0), stands(s, 0); got != want {
			t.Fatalf("Scan(%q, 0): %v, not %v", s, got, want)
		}
		if got, want := parse(s), everything(s); got != want {
			t.Fatalf("Parse(%q): %v, not %v", s, got, want)
		}
	}
}

// TestP143Numbers: P14.3, digits are read just if they are what is printed.
func TestP143Numbers(t *testing.T) {
	for n := -3000; n <= 3000; n++ {
		again(t, num(int64(n)))
		for _, s := range []string{"0" + strconv.Itoa(n), "-0" + strconv.Itoa(n), "-" + strconv.Itoa(n)} {
			if got, want := parse(s), everything(s); got != want {
				t.Fatalf("Parse(%q): %v, not %v", s, got, want)
			}
		}
	}
}
