package json_test

import (
	"bytes"
	library "encoding/json"
	"fmt"
	"math"
	"slices"
	"strconv"
	"strings"
	"testing"
	"unicode/utf8"

	"douane/api"
	"douane/json"
	"douane/token"
)

// Things, written short.
var (
	null  = api.Json{Kind: api.Null}
	no    = api.Json{Kind: api.Bool}
	yes   = api.Json{Kind: api.Bool, N: 1}
	empty = api.Json{Kind: api.Obj}
)

func number(n int64) api.Json     { return api.Json{Kind: api.Int, N: n} }
func text(s string) api.Json      { return api.Json{Kind: api.Str, S: s} }
func list(l ...api.Json) api.Json { return api.Json{Kind: api.List, L: l} }

// object is an Obj of names, with Space between them, and things.
func object(names string, l ...api.Json) api.Json {
	return api.Json{Kind: api.Obj, Names: strings.Fields(names), L: l}
}

// shape is all that there is in what may be a thing, nil and empty the same.
func shape(x api.Json) string {
	var b strings.Builder
	fmt.Fprintf(&b, "%d,%d,%q,%d%q(", x.Kind, x.N, x.S, len(x.Names), x.Names)
	for _, y := range x.L {
		b.WriteString(shape(y))
	}
	return b.String() + ")"
}

// told is what comes of a call of Parse.
type told struct {
	x  string
	at int
	e  api.Errno
}

// parse is what Parse answers.
func parse(s string, deep int) told {
	x, at, e := json.Parse(s, deep)
	return told{shape(x), at, e}
}

// good is what comes of a thing's text.
func good(s string, x api.Json) told { return told{shape(x), len(s), api.OK} }

// bad is what comes of a text that is wrong at a place.
func bad(at int, e api.Errno) told { return told{shape(api.Json{}), at, e} }

// built is the thing of a text, as the library reads it.
func built(s string) api.Json {
	d := library.NewDecoder(strings.NewReader(s))
	d.UseNumber()
	return build(d)
}

// build is the thing that the library's decoder comes to.
func build(d *library.Decoder) api.Json {
	t, err := d.Token()
	if err != nil {
		panic(err)
	}
	switch t := t.(type) {
	case bool:
		if t {
			return yes
		}
		return no
	case string:
		return text(t)
	case library.Number:
		n, err := strconv.ParseInt(t.String(), 10, 64)
		if err != nil {
			panic(err)
		}
		return number(n)
	case library.Delim:
		x := list()
		if t == '{' {
			x = empty
		}
		for d.More() {
			if t == '{' {
				name, _ := d.Token()
				x.Names = append(x.Names, name.(string))
			}
			x.L = append(x.L, build(d))
		}
		d.Token()
		return x
	}
	return null
}

// nest is a row of tokens' open ones, each with the names that it has.
type nest struct {
	ends  []string
	names [][]string
}

// step goes behind a token that stands where it may, name or not.
func (n nest) step(t string, name bool) nest {
	last := len(n.ends) - 1
	switch t {
	case "[":
		return nest{append(slices.Clip(n.ends), "]"), append(slices.Clip(n.names), nil)}
	case "{":
		return nest{append(slices.Clip(n.ends), "}"), append(slices.Clip(n.names), nil)}
	case "]", "}":
		return nest{n.ends[:last], n.names[:last]}
	}
	if name {
		names := slices.Clone(n.names)
		names[last] = append(slices.Clip(names[last]), unquoted(t))
		return nest{n.ends, names}
	}
	return n
}

// unquoted is what a Text means.
func unquoted(t string) string {
	var s string
	if err := library.Unmarshal([]byte(t), &s); err != nil {
		panic(err)
	}
	return s
}

// whole says whether the library reads tokens' text, if what is open then is closed.
func (n nest) whole(row []string, more ...string) bool {
	l := slices.Concat(row, more)
	for _, end := range slices.Backward(n.ends) {
		l = append(l, end)
	}
	return library.Valid([]byte(strings.Join(l, " ")))
}

// viable says whether some text that the library reads begins with tokens.
func (n nest) viable(row []string) bool {
	return n.whole(row) || n.whole(row, "0") || n.whole(row, ":", "0") || n.whole(row, `"zz"`, ":", "0")
}

// fault is what is wrong with a token behind a row of right ones, and what is open behind it.
func (n nest) fault(row []string, t string, deep int) (nest, api.Errno) {
	opens := t == "[" || t == "{"
	if opens && len(n.ends) >= deep {
		return n, api.ErrDeep
	}
	closes := t == "]" || t == "}"
	if closes && (len(n.ends) == 0 || n.ends[len(n.ends)-1] != t) {
		return n, api.ErrForm
	}
	name := t[0] == '"' && len(n.ends) > 0 && n.whole(row, t, ":", "0")
	behind := n.step(t, name)
	if !behind.viable(append(slices.Clip(row), t)) {
		return n, api.ErrForm
	}
	if name && slices.Contains(n.names[len(n.names)-1], unquoted(t)) {
		return n, api.ErrTwice
	}
	return behind, api.OK
}

// alphabet are the tokens of which rows are.
var alphabet = []string{"[", "]", "{", "}", ":", ",", `"a"`, `"\u0061"`, `"b"`, "-7", "true", "null"}

// rests are what may stand behind the first token that is wrong.
var rests = []string{"", " ]", " }", " [", " 0", ` "a"`, ` "`, " 1.5", " x", "\x00"}

// walk goes through all rows of up to so many tokens that go well, deep at most so deep, and hands on each of them, and each token that is wrong behind it, with its error.
func walk(deep, most int, right func(row []string, whole bool), wrong func(row []string, t string, e api.Errno)) {
	var on func(n nest, row []string)
	on = func(n nest, row []string) {
		right(row, len(n.ends) == 0 && n.whole(row))
		if len(row) == most {
			return
		}
		for _, t := range alphabet {
			if behind, e := n.fault(row, t, deep); e != api.OK {
				wrong(row, t, e)
			} else {
				on(behind, append(slices.Clip(row), t))
			}
		}
	}
	on(nest{}, nil)
}

// TestP81Rows: P8.1, all rows of tokens, up to the first that is wrong, against what the library reads.
func TestP81Rows(t *testing.T) {
	for deep, most := range []int{4, 6, 6, 7} {
		wholes, wrongs := 0, 0
		walk(deep, most, func(row []string, whole bool) {
			for _, blank := range []string{" ", "\r\n\t "} {
				s := blank + strings.Join(row, blank) + blank
				want := bad(len(s), api.ErrForm)
				if whole {
					want = good(s, built(s))
					wholes++
				}
				if got := parse(s, deep); got != want {
					t.Fatalf("Parse(%q, %d): %v, not %v", s, deep, got, want)
				}
			}
		}, func(row []string, x string, e api.Errno) {
			s := strings.Join(append(slices.Clip(row), ""), "\n")
			for _, rest := range rests {
				if got := parse(s+x+rest, deep); got != bad(len(s), e) {
					t.Fatalf("Parse(%q, %d): %v, not %v", s+x+rest, deep, got, bad(len(s), e))
				}
			}
			wrongs++
		})
		if wholes == 0 || wrongs == 0 {
			t.Errorf("%d deep: %d right, %d wrong", deep, wholes, wrongs)
		}
	}
}

// TestP81Things: P8.1, texts and their things, written out, as deep as is allowed, and one less.
func TestP81Things(t *testing.T) {
	for s, x := range map[string]struct {
		x    api.Json
		deep int
	}{
		"null": {null, 0}, "true": {yes, 0}, "false": {no, 0}, "0": {number(0), 0}, "-0": {number(0), 0}, "-1": {number(-1), 0}, " 12\t": {number(12), 0},
		"9223372036854775807": {number(math.MaxInt64), 0}, "-9223372036854775808": {number(math.MinInt64), 0},
		`""`: {text(""), 0}, `"null"`: {text("null"), 0}, `"\ud83d\ude00\u0000"`: {text("\U0001F600\x00"), 0}, `"[{,"`: {text("[{,"), 0},
		"[]": {list(), 1}, "{}": {empty, 1}, " [ ] ": {list(), 1}, "\n{\r}\t": {empty, 1},
		"[null]": {list(null), 1}, "[0,-0,true,false,null,\"\"]": {list(number(0), number(0), yes, no, null, text("")), 1},
		"[[],[[]],{}]": {list(list(), list(list()), empty), 3}, "[[[[]]]]": {list(list(list(list()))), 4},
		`{"a":[1,null]}`:                    {object("a", list(number(1), null)), 2},
		`{"b":1,"a":2}`:                     {object("b a", number(1), number(2)), 1},
		`{"":0}`:                            {api.Json{Kind: api.Obj, Names: []string{""}, L: []api.Json{number(0)}}, 1},
		`{"a":{"a":{"a":"a"}},"b":{}}`:      {object("a b", object("a", object("a", text("a"))), empty), 3},
		`[{"a":1},{"a":1},[{"a":1}]]`:       {list(object("a", number(1)), object("a", number(1)), list(object("a", number(1)))), 3},
		`{"a":1,"A":2,"\u00e1":3,"a ":4}`:   {api.Json{Kind: api.Obj, Names: []string{"a", "A", "\u00e1", "a "}, L: []api.Json{number(1), number(2), number(3), number(4)}}, 1},
		`{"a":"a","b":"a","c":["a","a"]}`:   {object("a b c", text("a"), text("a"), list(text("a"), text("a"))), 2},
		`{"\"":0,"\\":0,"/":0,"\u0000":0}`:  {api.Json{Kind: api.Obj, Names: []string{"\"", "\\", "/", "\x00"}, L: make0(4)}, 1},
		`{"null":null,"true":true,"0":0}  `: {object("null true 0", null, yes, number(0)), 1},
	} {
		for _, more := range []int{0, 1, 100, math.MaxInt - 4} {
			if got := parse(s, x.deep+more); got != good(s, x.x) {
				t.Errorf("Parse(%q, %d): %v, not %v", s, x.deep+more, got, good(s, x.x))
			}
		}
		if _, _, e := json.Parse(s, x.deep-1); x.deep > 0 && e != api.ErrDeep {
			t.Errorf("Parse(%q, %d): error %d", s, x.deep-1, e)
		}
	}
}

// make0 is so many numbers 0.
func make0(n int) []api.Json { return slices.Repeat([]api.Json{number(0)}, n) }

// TestP81Wrong: P8.1, what is wrong, written out.
func TestP81Wrong(t *testing.T) {
	for _, x := range []struct {
		s  string
		at int
		e  api.Errno
	}{
		{"", 0, api.ErrForm}, {" \n ", 3, api.ErrForm}, {"[", 1, api.ErrForm}, {"[ ", 2, api.ErrForm}, {"{", 1, api.ErrForm}, {`{"a"`, 4, api.ErrForm}, {`{"a":`, 5, api.ErrForm}, {`{"a":1`, 6, api.ErrForm}, {`{"a":1, `, 8, api.ErrForm}, {"[1", 2, api.ErrForm}, {"[1,", 3, api.ErrForm}, {"[[]", 3, api.ErrForm},
		{"]", 0, api.ErrForm}, {"}", 0, api.ErrForm}, {":", 0, api.ErrForm}, {",", 0, api.ErrForm}, {",1", 0, api.ErrForm}, {" ]", 1, api.ErrForm},
		{"[}", 1, api.ErrForm}, {"{]", 1, api.ErrForm}, {"[1}", 2, api.ErrForm}, {`{"a":1]`, 6, api.ErrForm}, {"[]]", 2, api.ErrForm}, {"{}}", 2, api.ErrForm}, {"[] []", 3, api.ErrForm}, {"{} 1", 3, api.ErrForm}, {"1 2", 2, api.ErrForm}, {"1,", 1, api.ErrForm}, {"null null", 5, api.ErrForm}, {`"a":1`, 3, api.ErrForm}, {`"a""b"`, 3, api.ErrForm}, {"1true", 1, api.ErrForm}, {"[1true]", 2, api.ErrForm},
		{"[,]", 1, api.ErrForm}, {"[,1]", 1, api.ErrForm}, {"[1,]", 3, api.ErrForm}, {"[1,,2]", 3, api.ErrForm}, {"[1 2]", 3, api.ErrForm}, {"[1:2]", 2, api.ErrForm}, {`["a":1]`, 4, api.ErrForm}, {"[[] []]", 4, api.ErrForm},
		{"{,}", 1, api.ErrForm}, {"{1:2}", 1, api.ErrForm}, {"{null:2}", 1, api.ErrForm}, {"{[]:2}", 1, api.ErrForm}, {"{{}:2}", 1, api.ErrForm}, {"{:2}", 1, api.ErrForm}, {`{"a"}`, 4, api.ErrForm}, {`{"a" 1}`, 5, api.ErrForm}, {`{"a",1}`, 4, api.ErrForm}, {`{"a"::1}`, 5, api.ErrForm}, {`{"a":}`, 5, api.ErrForm}, {`{"a":,}`, 5, api.ErrForm}, {`{"a":1,}`, 7, api.ErrForm}, {`{"a":1,,}`, 7, api.ErrForm}, {`{"a":1 "b":2}`, 7, api.ErrForm}, {`{"a":1,2}`, 7, api.ErrForm}, {`{"a":1:2}`, 6, api.ErrForm}, {`{"a" "a"}`, 5, api.ErrForm},
		{"x", 0, api.ErrForm}, {"tru", 0, api.ErrForm}, {"True", 0, api.ErrForm}, {"nulls", 0, api.ErrForm}, {"01", 0, api.ErrForm}, {"-", 0, api.ErrForm}, {"'a'", 0, api.ErrForm}, {"\ufeff1", 0, api.ErrForm}, {"[1] //", 4, api.ErrForm}, {"1\x00", 1, api.ErrForm}, {"1\v", 1, api.ErrForm},
		{`"a`, 2, api.ErrForm}, {`["a\x"]`, 3, api.ErrForm}, {`{"\ud83d":1}`, 2, api.ErrForm}, {"[\"a\xff\"]", 3, api.ErrForm}, {"{\"\xed\xa0\x80\":1}", 2, api.ErrForm}, {"[\"a\n\"]", 3, api.ErrForm},
		{"1.5", 0, api.ErrNum}, {"[1e2]", 1, api.ErrNum}, {`{"a":9223372036854775808}`, 5, api.ErrNum}, {"-9223372036854775809", 0, api.ErrNum}, {"{1.5", 1, api.ErrNum}, {"[1 1.5", 3, api.ErrNum}, {"1 1.5", 2, api.ErrNum}, {"] 1.5", 0, api.ErrForm},
		{`{"a":1,"a":2}`, 7, api.ErrTwice}, {`{"a" x`, 5, api.ErrForm}, {"[1,]]", 3, api.ErrForm},
	} {
		if got := parse(x.s, 3); got != bad(x.at, x.e) {
			t.Errorf("Parse(%q, 3): %v, not %v", x.s, got, bad(x.at, x.e))
		}
	}
}

// sample is a text of all kinds of tokens; samples are how long it is up to each of them.
const sample = ` {"a" : [1, -20 ,true,[ ],{}], "b\u00e9" : {"c":"\ud83d\ude00", "a":null,"d":[[false]]} } `

func samples(t *testing.T) []int {
	t.Helper()
	l, _, e := token.All(sample)
	if e != api.OK {
		t.Fatal(e)
	}
	var at []int
	for _, x := range l {
		at = append(at, x.At)
	}
	return at
}

// TestP81Tokens: P8.1, a token that is wrong, ahead of each other one: layer 7's error and place.
func TestP81Tokens(t *testing.T) {
	if got := parse(sample, 4); got != good(sample, built(sample)) {
		t.Fatal(got)
	}
	for _, at := range samples(t) {
		for w, x := range map[string]struct {
			more int
			e    api.Errno
		}{
			"x ": {0, api.ErrForm}, "nul ": {0, api.ErrForm}, " 00 ": {1, api.ErrForm}, "1.5 ": {0, api.ErrNum}, "  1E9 ": {2, api.ErrNum}, "99999999999999999999 ": {0, api.ErrNum}, "\x00": {0, api.ErrForm}, "\n\xff": {1, api.ErrForm},
			"\"a\x01\"": {2, api.ErrForm}, "\"ab\xff\"": {3, api.ErrForm}, `"abc\q"`: {4, api.ErrForm}, `"\ude00"`: {1, api.ErrForm},
		} {
			// The blank keeps it from being one row with the token ahead.
			s := sample[:at] + " " + w + sample[at:]
			if got := parse(s, 4); got != bad(at+1+x.more, x.e) {
				t.Errorf("Parse(%q, 4): %v, not %v", s, got, bad(at+1+x.more, x.e))
			}
		}
	}
}

// TestP81Cut: P8.1, a text that is cut at each place.
func TestP81Cut(t *testing.T) {
	for n := range strings.LastIndex(sample, "}") {
		s := sample[:n]
		want := bad(n, api.ErrForm)
		if _, at, e := token.All(s); e != api.OK {
			want = bad(at, e)
		}
		if got := parse(s, 4); got != want {
			t.Errorf("Parse(%q, 4): %v, not %v", s, got, want)
		}
	}
}

// nested is what stands ahead of and behind a thing that lies within so many Lists and Objs.
func nested(deep, shift int) (string, string) {
	var ahead, behind []string
	for i := range deep {
		if (i+shift)%3 == 0 {
			ahead, behind = append(ahead, "["), append(behind, "]")
		} else {
			ahead, behind = append(ahead, `{"a":`), append(behind, "}")
		}
	}
	slices.Reverse(behind)
	return strings.Join(ahead, ""), strings.Join(behind, "")
}

// TestP81Deep: P8.1, how deep it may be.
func TestP81Deep(t *testing.T) {
	for deep := range 30 {
		for shift := range 3 {
			ahead, behind := nested(deep, shift)
			for _, s := range []string{ahead + "0" + behind, ahead + "[]" + behind, ahead + `{}` + behind} {
				x, at, e := json.Parse(s, deep+1)
				if e != api.OK || at != len(s) || shape(x) != shape(built(s)) {
					t.Errorf("Parse(%q, %d): %v %d %d", s, deep+1, x, at, e)
				}
			}
			for _, s := range []string{ahead + "[]" + behind, ahead + `{"a":0}` + behind, ahead + "[", ahead + "{", ahead + "[x", ahead + "{]"} {
				if got := parse(s, deep); got != bad(len(ahead), api.ErrDeep) {
					t.Errorf("Parse(%q, %d): %v, not at %d", s, deep, got, len(ahead))
				}
			}
		}
	}
}

// TestP81DeepEdges: P8.1, below 0 none may be deep; what stands side by side isn't deeper.
func TestP81DeepEdges(t *testing.T) {
	for _, deep := range []int{0, -1, -2, -100, math.MinInt32, math.MinInt} {
		for s, at := range map[string]int{"[]": 0, " {}": 1, "\n\t[1": 2, "[": 0, "{": 0, "[x": 0} {
			if got := parse(s, deep); got != bad(at, api.ErrDeep) {
				t.Errorf("Parse(%q, %d): %v", s, deep, got)
			}
		}
		for s, x := range map[string]api.Json{"5": number(5), `"["`: text("["), " null ": null} {
			if got := parse(s, deep); got != good(s, x) {
				t.Errorf("Parse(%q, %d): %v", s, deep, got)
			}
		}
		if got := parse("", deep); got != bad(0, api.ErrForm) {
			t.Errorf("Parse(\"\", %d): %v", deep, got)
		}
	}
	for _, s := range []string{"[[],[],{},[1]]", `{"a":[],"b":{},"c":[]}`} {
		if got := parse(s, 2); got != good(s, built(s)) {
			t.Errorf("Parse(%q, 2): %v", s, got)
		}
	}
	if got := parse(`[{"a":1},[{"a":1}]]`, 2); got != bad(10, api.ErrDeep) {
		t.Error(got)
	}
}

// TestP81DeepFirst: P8.1, where it is too deep and can't stand there either, too deep is named first.
func TestP81DeepFirst(t *testing.T) {
	for _, x := range []struct {
		s    string
		deep int
		at   int
		e    api.Errno
	}{
		{"1 [", 0, 2, api.ErrDeep}, {"1 {", 0, 2, api.ErrDeep}, {"1 [", 1, 2, api.ErrForm}, {"null{", -1, 4, api.ErrDeep},
		{"[1 [", 1, 3, api.ErrDeep}, {"[1 [", 2, 3, api.ErrForm}, {"[1{", 1, 2, api.ErrDeep},
		{"{[", 1, 1, api.ErrDeep}, {"{[", 2, 1, api.ErrForm}, {"{{", 1, 1, api.ErrDeep}, {`{"a"[`, 1, 4, api.ErrDeep}, {`{"a"[`, 2, 4, api.ErrForm}, {`{"a":1{`, 1, 6, api.ErrDeep}, {`{"a":1,[`, 1, 7, api.ErrDeep}, {`{"a":1,[`, 2, 7, api.ErrForm},
		{"[][", 1, 2, api.ErrForm}, {"[[] [", 2, 4, api.ErrForm}, {"[[1 [", 2, 4, api.ErrDeep}, {"]", 0, 0, api.ErrForm}, {",[", 0, 0, api.ErrForm},
	} {
		if got := parse(x.s, x.deep); got != bad(x.at, x.e) {
			t.Errorf("Parse(%q, %d): %v, not %v", x.s, x.deep, got, bad(x.at, x.e))
		}
	}
}

// TestP81VeryDeep: P8.1, as many levels as the document's limits have.
func TestP81VeryDeep(t *testing.T) {
	const most = 1 << 16
	ahead, behind := nested(most, 0)
	s := ahead + "7" + behind
	x, at, e := json.Parse(s, most)
	if e != api.OK || at != len(s) {
		t.Fatal(at, e)
	}
	for range most {
		if len(x.L) != 1 {
			t.Fatal(x.Kind, len(x.L))
		}
		x = x.L[0]
	}
	if shape(x) != shape(number(7)) {
		t.Error(shape(x))
	}
	inner, _ := nested(most-1, 0)
	if got := parse(s, most-1); got != bad(len(inner), api.ErrDeep) {
		t.Error(got)
	}
}

// TestP81Twice: P8.1, names that are there twice, by what they mean, where the second one begins.
func TestP81Twice(t *testing.T) {
	for s, at := range map[string]int{
		`{"a":1,"a":2}`: 7, `{"a":1, "a"`: 8, `{"a":1,"a" 2`: 7, `{"a":1,"a"x`: 7, `{"a":1,"\u0061":1}`: 7, `{"\u00e9":1,"` + "\u00e9" + `":1}`: 12, `{"/":1,"\/":1}`: 7, `{"":1,"":1}`: 6, `{"\n":1,"\u000A":1}`: 8,
		`{"a":1,"b":2,"a":3}`: 13, `{"a":1,"b":2,"b":3}`: 13, `{"a":{"a":1},"a":1}`: 13, `[{"b":[{"a":1},{"a":1,"a":1}],"b":0}]`: 22, `{"a":{},"b":{"a":1,"b":1},"b":1}`: 26, `{"\ud83d\ude00":1,"` + "\U0001F600" + `":1}`: 18,
	} {
		if got := parse(s, 4); got != bad(at, api.ErrTwice) {
			t.Errorf("Parse(%q, 4): %v, not at %d", s, got, at)
		}
	}
	for s, x := range map[string]told{
		`{"a":1,"a`: bad(9, api.ErrForm), `{"a":1,"a\x"`: bad(9, api.ErrForm), `{"a":1 "a"`: bad(7, api.ErrForm), `{"a":"a" "a"`: bad(9, api.ErrForm), `{"a":x,"a":1}`: bad(5, api.ErrForm), `{"a":1.5,"a":1}`: bad(5, api.ErrNum), `{"a":[[[[]]]],"a":1}`: bad(8, api.ErrDeep),
	} {
		if got := parse(s, 4); got != x {
			t.Errorf("Parse(%q, 4): %v, not %v", s, got, x)
		}
	}
}

// TestP81Many: P8.1, a text of many names, and one twice at its end.
func TestP81Many(t *testing.T) {
	var b strings.Builder
	b.WriteString("{")
	for i := range 50000 {
		fmt.Fprintf(&b, "\"n%d\":[%d],", i, i)
	}
	s := b.String()
	x, at, e := json.Parse(s+`"n":0}`, 2)
	if e != api.OK || at != len(s)+6 || len(x.Names) != 50001 || len(x.L) != 50001 || x.Names[777] != "n777" || x.L[777].L[0].N != 777 {
		t.Error(at, e)
	}
	if got := parse(s+`"n49999":0}`, 2); got != bad(len(s), api.ErrTwice) {
		t.Error(got)
	}
}

// TestP81New: an answer is new memory, and none of its lists share any.
func TestP81New(t *testing.T) {
	s := `[[1,2,3],{"a":[1],"b":[2],"c":3},[4,5,6]]`
	x, _, _ := json.Parse(s, 3)
	was := shape(x)
	for _, l := range [][]api.Json{x.L, x.L[0].L, x.L[1].L, x.L[1].L[0].L, x.L[1].L[1].L, x.L[2].L} {
		for range 5 {
			l = append(l, text("over"))
		}
	}
	_ = append(append(x.L[1].Names, "over"), "over")
	if shape(x) != was {
		t.Error(shape(x))
	}
	x.L[0].L[0], x.L[1].Names[0] = text("other"), "other"
	if got := parse(s, 3); got.x != was {
		t.Error(got)
	}
}

// kindsOf are what may be things, of every kind and of none, each with much that its kind may not have.
func kindsOf() []api.Json {
	var l []api.Json
	inside := [][]api.Json{nil, {}, {null}, {number(5), list(yes)}, {{Kind: api.Sym, S: "a"}}, {no, {Kind: api.Bool, N: 2}}}
	for kind := -2; kind < 9; kind++ {
		for _, n := range []int64{0, 1, 2, -1, math.MinInt64} {
			for _, s := range []string{"", "a", "\xff"} {
				for _, names := range [][]string{nil, {}, {"a"}, {"a", "b"}, {"b", "b"}, {"", "\x00\""}, {"\xed\xa0\x80"}} {
					for _, in := range inside {
						l = append(l, api.Json{Kind: kind, N: n, S: s, Names: names, L: in})
					}
				}
			}
		}
	}
	return l
}

// isThing says, by the chapter's words, whether what may be a thing is one.
func isThing(x api.Json) bool {
	rest := x
	rest.Kind = api.Null
	switch x.Kind {
	case api.Null:
	case api.Bool:
		if x.N != 0 && x.N != 1 {
			return false
		}
		rest.N = 0
	case api.Int:
		rest.N = 0
	case api.Str:
		if !utf8.ValidString(x.S) {
			return false
		}
		rest.S = ""
	case api.Obj, api.List:
		rest.L = nil
		if x.Kind == api.Obj {
			rest.Names = nil
			sorted := slices.Sorted(slices.Values(x.Names))
			if len(x.Names) != len(x.L) || len(slices.Compact(sorted)) != len(x.L) || !utf8.ValidString(strings.Join(x.Names, " ")) {
				return false
			}
		}
		for _, y := range x.L {
			if !isThing(y) {
				return false
			}
		}
	default:
		return false
	}
	return shape(rest) == shape(api.Json{})
}

// within are a thing within others.
func within(x api.Json) []api.Json {
	return []api.Json{list(x), list(null, x), object("a", x), object("a b", x, number(1)), list(list(list(x))), object("a b", list(), object("c d e", no, yes, list(text(""), x)))}
}

// TestP82Right: P8.2, what is a thing, and what is none, alone and within others.
func TestP82Right(t *testing.T) {
	rights := 0
	for _, x := range kindsOf() {
		want := isThing(x)
		if want {
			rights++
		}
		if got := json.Right(x); got != want {
			t.Errorf("Right(%s): %t", shape(x), got)
		}
		for _, y := range within(x) {
			if got := json.Right(y); got != want {
				t.Errorf("Right(%s): %t", shape(y), got)
			}
		}
	}
	if rights < 20 {
		t.Error(rights)
	}
}

// TestP82RightEdges: P8.2, written out.
func TestP82RightEdges(t *testing.T) {
	one := []api.Json{number(1)}
	for _, x := range []api.Json{
		null, no, yes, number(0), number(math.MinInt64), number(math.MaxInt64), text(""), text("\x00\U0010FFFF\"\\"), text(strings.Repeat("a", 5000)), list(), empty, list(make0(1000)...), object("a", null),
		{Kind: api.Null, Names: []string{}, L: []api.Json{}}, {Kind: api.Obj, Names: []string{}, L: []api.Json{}}, {Kind: api.Obj, Names: []string{""}, L: one}, object("a A \u00e9 e\u0301", make0(4)...), object("a", object("a", object("a", null))),
	} {
		if !json.Right(x) {
			t.Error("not right:", shape(x))
		}
	}
	for _, x := range []api.Json{
		{Kind: api.Sym}, {Kind: api.Sym, S: "a"}, {Kind: -1}, {Kind: 7}, {Kind: math.MaxInt}, {Kind: math.MinInt}, {Kind: api.Null, N: 1}, {Kind: api.Null, S: "null"}, {Kind: api.Bool, N: 2}, {Kind: api.Bool, N: -1}, {Kind: api.Bool, S: "true"}, {Kind: api.Int, S: "1"}, {Kind: api.Int, L: one}, {Kind: api.Int, Names: []string{""}}, {Kind: api.Str, N: 1}, {Kind: api.Str, L: one},
		text("\x80"), text("a\xc0\x80"), text("\xed\xa0\x80"), text("\xf4\x90\x80\x80"), text("\xe2\x82"),
		{Kind: api.List, N: 1}, {Kind: api.List, S: "a"}, {Kind: api.List, Names: []string{"a"}}, {Kind: api.List, Names: []string{"a"}, L: one}, {Kind: api.Obj, N: 1}, {Kind: api.Obj, S: "a"},
		object("a"), object("", null), object("a b", null), object("a", null, null), object("a a", null, null), object("a b a", make0(3)...), object("a b b", make0(3)...), object("\xff", null), object("a b\xff", make0(2)...),
	} {
		if json.Right(x) {
			t.Error("right:", shape(x))
		}
		if s, e := json.Print(x); s != "" || e != api.ErrArg {
			t.Errorf("Print(%s): %q, %d", shape(x), s, e)
		}
	}
}

// TestP82Deep: P8.2, of things and of others.
func TestP82Deep(t *testing.T) {
	for _, x := range []struct {
		x    api.Json
		deep int
	}{
		{null, 0}, {yes, 0}, {number(5), 0}, {text("[["), 0}, {api.Json{Kind: 9}, 0}, {list(), 1}, {empty, 1}, {list(null), 1}, {list(list()), 2}, {list(empty, null), 2}, {list(null, list(list()), list()), 3}, {object("a b", list(), object("c", list())), 3},
		{api.Json{Kind: api.List, L: []api.Json{}}, 1}, {api.Json{Kind: api.Obj, Names: []string{"a", "b"}}, 1}, {api.Json{Kind: api.Int, Names: []string{"a"}}, 0},
		{api.Json{Kind: api.Int, L: []api.Json{null}}, 0}, {api.Json{Kind: api.Sym, L: []api.Json{list(), list(list())}}, 2}, {list(api.Json{Kind: -1, L: []api.Json{empty}}), 2}, {api.Json{Kind: api.Null, L: []api.Json{{Kind: api.Str, L: []api.Json{{Kind: 7}}}}}, 0},
		{api.Json{Kind: api.Obj, L: []api.Json{list()}}, 2},
	} {
		if got := json.Deep(x.x); got != x.deep {
			t.Errorf("Deep(%s): %d, not %d", shape(x.x), got, x.deep)
		}
	}
	for _, kind := range []int{api.List, api.Obj, api.Int} {
		x := null
		for i := range 21 {
			want := i
			if kind == api.Int {
				want = 0
			}
			if got := json.Deep(x); got != want {
				t.Errorf("kind %d, %d things: %d", kind, i, got)
			}
			x = api.Json{Kind: kind, L: []api.Json{null, x}}
		}
	}
}

// TestP82Print: P8.2, texts written out.
func TestP82Print(t *testing.T) {
	for want, x := range map[string]api.Json{
		"null": null, "true": yes, "false": no, "0": number(0), "-120": number(-120), "9223372036854775807": number(math.MaxInt64), "-9223372036854775808": number(math.MinInt64),
		`""`: text(""), `"a b"`: text("a b"), `"\"\\/\u0000\u0008\u000a\u001f` + "\x7f\u00e9\u2028\U0001F600<&>\"": text("\"\\/\x00\b\n\x1f\x7f\u00e9\u2028\U0001F600<&>"),
		"[]": list(), "{}": empty, "[null]": list(null), "[1,-2,true,false,null,\"\"]": list(number(1), number(-2), yes, no, null, text("")), "[[],[[]],{}]": list(list(), list(list()), empty),
		`{"a":1}`: object("a", number(1)), `{"b":1,"a":2,"c":{}}`: object("b a c", number(1), number(2), empty), `{"a":[1,{"a":null}]}`: object("a", list(number(1), object("a", null))),
		`{"":0,"\"":0,"\\":0,"\u0009":0}`: {Kind: api.Obj, Names: []string{"", "\"", "\\", "\t"}, L: make0(4)},
	} {
		if got, e := json.Print(x); got != want || e != api.OK {
			t.Errorf("Print(%s): %q, %d, not %q", shape(x), got, e, want)
		}
	}
}

// TestP82PrintAll: P8.2, what is no thing has no text; what is printed means the thing, to the library too, and has no blanks.
func TestP82PrintAll(t *testing.T) {
	for _, x := range kindsOf() {
		for _, y := range append(within(x), x) {
			was := shape(y)
			got, e := json.Print(y)
			if shape(y) != was {
				t.Errorf("Print(%s) changes it", was)
			}
			if !isThing(x) {
				if got != "" || e != api.ErrArg {
					t.Errorf("Print(%s): %q, %d", was, got, e)
				}
				continue
			}
			var bare bytes.Buffer
			if err := library.Compact(&bare, []byte(got)); err != nil || e != api.OK || bare.String() != got || shape(built(got)) != was {
				t.Errorf("Print(%s): %q, %d", was, got, e)
			}
		}
	}
}

// TestP82Find: P8.2, an Obj's first name that is that, its thing; of no other kind, and of no other name.
func TestP82Find(t *testing.T) {
	x := object("a b A \u00e9", number(1), list(number(2)), null, object("a", number(3)))
	for name, want := range map[string]api.Json{"a": number(1), "b": list(number(2)), "A": null, "\u00e9": object("a", number(3))} {
		if got, ok := json.Find(x, name); !ok || shape(got) != shape(want) {
			t.Errorf("Find %q: %s, %t", name, shape(got), ok)
		}
	}
	two := api.Json{Kind: api.Obj, Names: []string{"b", "a", "a", ""}, L: []api.Json{number(0), number(1), number(2), number(3)}}
	for name, n := range map[string]int64{"a": 1, "b": 0, "": 3} {
		if got, ok := json.Find(two, name); !ok || shape(got) != shape(number(n)) {
			t.Errorf("Find %q: %s, %t", name, shape(got), ok)
		}
	}
	lack := api.Json{Kind: api.Obj, Names: []string{"a", "b", "c"}, L: []api.Json{number(1)}}
	if got, ok := json.Find(lack, "a"); !ok || got.N != 1 {
		t.Error(got, ok)
	}
	for _, y := range []struct {
		x    api.Json
		name string
	}{
		{x, "c"}, {x, ""}, {x, "B"}, {x, "e"}, {x, "a\x00"}, {x, "ab"}, {empty, ""}, {empty, "a"}, {null, ""}, {text("a"), "a"}, {list(number(1)), "a"}, {list(object("a", number(1))), "a"}, {object("b", object("a", null)), "a"},
		{api.Json{Kind: api.List, Names: []string{"a"}, L: []api.Json{number(1)}}, "a"}, {api.Json{Kind: 7, Names: []string{"a"}, L: []api.Json{number(1)}}, "a"}, {lack, "b"}, {lack, "c"}, {api.Json{Kind: api.Obj, Names: []string{"a"}}, "a"}, {api.Json{Kind: api.Obj, L: []api.Json{number(1)}}, ""},
	} {
		if got, ok := json.Find(y.x, y.name); ok || shape(got) != shape(api.Json{}) {
			t.Errorf("Find(%s, %q): %s, %t", shape(y.x), y.name, shape(got), ok)
		}
	}
}

// TestP82Same: P8.2, each two of many, things or not: all must be the same, all through.
func TestP82Same(t *testing.T) {
	l := []api.Json{list(), list(null), list(null, null), list(yes, no), list(no, yes), list(list(), list(list())), list(list(list()), list()), object("a b", number(1), number(2)), object("b a", number(2), number(1)), object("b a", number(1), number(2)), object("ab", number(1)), text("\xfe")}
	for i, x := range kindsOf() {
		if i%11 == 0 {
			l = append(l, x)
		}
	}
	for i, x := range l {
		l = append(l, within(x)[i%6])
	}
	shapes := make([]string, len(l))
	for i, x := range l {
		shapes[i] = shape(x)
	}
	for i, a := range l {
		for j, b := range l {
			if got := json.Same(a, b); got != (shapes[i] == shapes[j]) {
				t.Fatalf("Same(%s, %s): %t", shapes[i], shapes[j], got)
			}
		}
	}
}

// TestP82SameEdges: P8.2, nil and empty are one; a single difference, however deep, is enough.
func TestP82SameEdges(t *testing.T) {
	if !json.Same(list(), api.Json{Kind: api.List, Names: []string{}, L: []api.Json{}}) || !json.Same(list(empty), list(api.Json{Kind: api.Obj, Names: []string{}, L: []api.Json{}})) {
		t.Error("nil and empty")
	}
	differ := []api.Json{{}, {Kind: 1}, {N: 1}, {S: "a"}, {S: "A"}, {Names: []string{""}}, {Names: []string{"a"}}, {Names: []string{"a", ""}}, {L: make([]api.Json, 1)}, {L: make([]api.Json, 2)}}
	for i, a := range differ {
		for j, b := range differ {
			x, y := a, b
			for range 20 {
				if json.Same(x, y) != (i == j) {
					t.Fatalf("Same(%s, %s)", shape(x), shape(y))
				}
				x, y = list(null, x), list(null, y)
			}
		}
	}
}

// great are things 20 deep, and of 2,000 in all.
func great() []api.Json {
	chain, wide := list(), list()
	for range 19 {
		chain = object("a b", text("\""), chain)
	}
	for range 37 {
		wide.L = append(wide.L, list(append(make0(51), text("\u00e9"))...))
	}
	return []api.Json{chain, wide, list(make0(1999)...)}
}

// TestP82Great: P8.2, as deep and as many as the chapter says.
func TestP82Great(t *testing.T) {
	for i, x := range great() {
		s, e := json.Print(x)
		deep := []int{20, 2, 1}[i]
		if e != api.OK || shape(built(s)) != shape(x) || json.Deep(x) != deep || !json.Right(x) || !json.Same(x, built(s)) {
			t.Errorf("%d: %d %d", i, e, json.Deep(x))
		}
	}
}

// again checks that a thing is right, and printed and read the same.
func again(t *testing.T, x api.Json) {
	t.Helper()
	s, e := json.Print(x)
	y, at, f := json.Parse(s, json.Deep(x))
	if e != api.OK || f != api.OK || at != len(s) || !json.Right(x) || !json.Same(x, y) || shape(x) != shape(y) {
		t.Errorf("%s: %q %d, %s %d %d", shape(x), s, e, shape(y), at, f)
	}
	if z, _ := json.Print(y); z != s {
		t.Errorf("%q: %q", s, z)
	}
	if _, at, f := json.Parse(s, json.Deep(x)-1); json.Deep(x) > 0 && (f != api.ErrDeep || at >= len(s)) {
		t.Errorf("%q, one less deep: %d %d", s, at, f)
	}
}

// TestP83Printed: P8.3, what is printed is read again, at most as deep as it is.
func TestP83Printed(t *testing.T) {
	for _, x := range append(kindsOf(), great()...) {
		if isThing(x) {
			again(t, x)
			for _, y := range within(x) {
				again(t, y)
			}
		}
	}
	for c := range rune(0x3000) {
		again(t, api.Json{Kind: api.Obj, Names: []string{string(c)}, L: []api.Json{text(string(c) + "0")}})
	}
}

// TestP83Read: P8.3, what is read is right, and printed and read the same.
func TestP83Read(t *testing.T) {
	n := 0
	walk(3, 7, func(row []string, whole bool) {
		if !whole {
			return
		}
		n++
		x, _, e := json.Parse(strings.Join(row, " "), 3)
		if e != api.OK {
			t.Fatal(row, e)
		}
		again(t, x)
	}, func([]string, string, api.Errno) {})
	if n == 0 {
		t.Error("none")
	}
	for _, s := range []string{sample, " -0 ", `"\u0041\/\u001F\ud83d\ude00"`, "[\t{\n\"\\u0061\":\r1 } , -0]"} {
		x, _, e := json.Parse(s, 4)
		if e != api.OK {
			t.Fatal(s, e)
		}
		again(t, x)
	}
}
