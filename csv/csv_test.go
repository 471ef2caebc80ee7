package csv_test

import (
	library "encoding/csv"
	"fmt"
	"iter"
	"regexp"
	"slices"
	"strings"
	"testing"

	"douane/api"
	"douane/csv"
)

// The grammar of the chapter, as patterns.
const (
	bare    = `[^,"\r\n]*`
	inMarks = `"(?:[^"]|"")*"`
	field   = `(?:` + inMarks + `|` + bare + `)`
	row     = field + `(?:,` + field + `)*`
)

var (
	whole = regexp.MustCompile(`^(?:` + row + `\r\n)*(?:` + row + `)?$`)
	first = regexp.MustCompile(`^(` + inMarks + `|` + bare + `)(,|\r\n|$)`)
	plain = regexp.MustCompile(`^[^,"\r\n]+$`)
)

// told is what comes of a call of Parse.
type told struct {
	rows string
	at   int
	e    api.Errno
}

// shape is rows, nil and empty the same.
func shape(rows [][]string) string {
	return fmt.Sprintf("%d%q", len(rows), rows)
}

// parse is what Parse answers.
func parse(s string) told {
	rows, at, e := csv.Parse(s)
	return told{shape(rows), at, e}
}

// good is what comes of a text of rows.
func good(s string, rows [][]string) told { return told{shape(rows), len(s), api.OK} }

// bad is what comes of a text that is wrong at a place.
func bad(at int) told { return told{shape(nil), at, api.ErrForm} }

// split is the rows of a text that the grammar has.
func split(s string) [][]string {
	var rows [][]string
	var l []string
	for s != "" || l != nil {
		m := first.FindStringSubmatch(s)
		s = s[len(m[0]):]
		f := m[1]
		if strings.HasPrefix(f, `"`) {
			f = strings.ReplaceAll(f[1:len(f)-1], `""`, `"`)
		}
		l = append(l, f)
		if m[2] != "," {
			rows, l = append(rows, l), nil
		}
	}
	return rows
}

// expected is what Parse must answer. A text that the grammar hasn't is wrong behind the longest piece that might go on well, but at a lone d that this ends by.
func expected(s string) told {
	if whole.MatchString(s) {
		return good(s, split(s))
	}
	for n := len(s); ; n-- {
		if p := s[:n]; whole.MatchString(p) || whole.MatchString(p+`"`) {
			return bad(n)
		} else if whole.MatchString(p + "\n") {
			return bad(n - 1)
		}
	}
}

// texts hands on all texts of up to so many of some pieces.
func texts(most int, pieces ...string) iter.Seq[string] {
	return func(yield func(string) bool) {
		var on func(s string, n int) bool
		on = func(s string, n int) bool {
			if !yield(s) {
				return false
			}
			for _, p := range pieces {
				if n > 0 && !on(s+p, n-1) {
					return false
				}
			}
			return true
		}
		on("", most)
	}
}

// TestP91All: P9.1, all texts of up to seven edge bytes, against the grammar.
func TestP91All(t *testing.T) {
	rights, wrongs := 0, 0
	for s := range texts(7, "a", ",", `"`, "\r", "\n") {
		want := expected(s)
		if got := parse(s); got != want {
			t.Fatalf("Parse(%q): %v, not %v", s, got, want)
		}
		if want.e == api.OK {
			rights++
		} else {
			wrongs++
		}
	}
	if rights < 1000 || wrongs < 1000 {
		t.Error(rights, wrongs)
	}
}

// TestP91Pieces: P9.1, all texts of up to five longer pieces, against the grammar.
func TestP91Pieces(t *testing.T) {
	for s := range texts(5, "\r\n", `""`, `"`, ",", " b", `"c,`, "\r\r\n", "\x00", "\xff\u00e9") {
		if got := parse(s); got != expected(s) {
			t.Fatalf("Parse(%q): %v, not %v", s, got, expected(s))
		}
	}
}

// TestP91Rows: P9.1, texts and their rows, written out.
func TestP91Rows(t *testing.T) {
	for s, rows := range map[string][][]string{
		"": {}, "\r\n": {{""}}, "\r\n\r\n": {{""}, {""}}, "a": {{"a"}}, "a\r\n": {{"a"}}, "a\r\n\r\n": {{"a"}, {""}}, "\r\na": {{""}, {"a"}}, "a\r\nb": {{"a"}, {"b"}}, "a\r\nb\r\n": {{"a"}, {"b"}},
		",": {{"", ""}}, ",,": {{"", "", ""}}, ",\r\n": {{"", ""}}, ",\r\n,": {{"", ""}, {"", ""}}, "a,": {{"a", ""}}, ",a": {{"", "a"}}, "a,b,c": {{"a", "b", "c"}}, "a,b\r\nc\r\n,,": {{"a", "b"}, {"c"}, {"", "", ""}},
		`""`: {{""}}, "\"\"\r\n": {{""}}, `"",""`: {{"", ""}}, `"",`: {{"", ""}}, `,""`: {{"", ""}}, `""""`: {{`"`}}, `""""""`: {{`""`}}, `"a"`: {{"a"}}, `"a""b"`: {{`a"b`}}, `"""a"`: {{`"a`}}, `"a"""`: {{`a"`}},
		`"a,b"`: {{"a,b"}}, `"a,b",c`: {{"a,b", "c"}}, "\"\r\n\"": {{"\r\n"}}, "\"\r\"": {{"\r"}}, "\"\n\",\"\n\r\"": {{"\n", "\n\r"}}, "\"a\r\nb\"\r\nc": {{"a\r\nb"}, {"c"}}, "\"a\"\"\r\n\"": {{"a\"\r\n"}},
		"a,\"\"\"b\"\"\"\r\n": {{"a", `"b"`}}, " a , b ": {{" a ", " b "}}, " ": {{" "}}, "\t;'": {{"\t;'"}}, "\x00,\v\f": {{"\x00", "\v\f"}}, "\ufeffa,\u2028\u0085": {{"\ufeffa", "\u2028\u0085"}}, "\xff,\"\xfe\"": {{"\xff", "\xfe"}}, `\,`: {{`\`, ""}}, `"\"`: {{`\`}},
	} {
		if got := parse(s); got != good(s, rows) {
			t.Errorf("Parse(%q): %v, not %v", s, got, good(s, rows))
		}
	}
}

// TestP91Wrong: P9.1, what is wrong, written out: a quote in a bare field, a lone d or a, what stands behind a closing quote, no closing quote.
func TestP91Wrong(t *testing.T) {
	for s, at := range map[string]int{
		`a"b`: 1, `a"`: 1, ` "a"`: 1, `a,b"`: 3, "a\r\nb\"c\"": 4, `a""`: 1, `"a",b""`: 5, `\"`: 1,
		"\r": 0, "\n": 0, "a\r": 1, "a\n": 1, "a\rb": 1, "a\nb": 1, "\n\r": 0, "a\r\r\n": 1, "a\r\n\n": 3, "a\r\n\r": 3, ",\n": 1, ",\r": 1, "a,\rb": 2, "\r\"\"": 0,
		`"a"b`: 3, `"a" `: 3, `"a" ,b`: 3, `""a`: 2, `"a""b"c`: 6, "\"a\"\r": 3, "\"a\"\n": 3, "\"a\"\rb": 3, "\"a\"\r\r\n": 3, "\"\"\x00": 2, `"" ""`: 2, "a\r\n\"b\"\xff": 6,
		`"`: 1, `"a`: 2, `a,"`: 3, `"""`: 3, `"a""`: 4, `"a"",b`: 6, "\"a\r\n": 4, "\"\r": 2, "a\r\n\"": 4, `"a","`: 5, `"""""`: 5, "\"\xff": 2,
		`a"b,"c`: 1, "a\rb\"c": 1, "\"a\"b\rc": 3, `"a"b"`: 3, "a,b\nc\"d": 3,
	} {
		if got := parse(s); got != bad(at) {
			t.Errorf("Parse(%q): %v, not wrong at %d", s, got, at)
		}
		ahead := "x,\"y\"\"\r\n\"\r\n"
		if got := parse(ahead + s); got != bad(len(ahead)+at) {
			t.Errorf("Parse(%q): %v, not wrong at %d", ahead+s, got, len(ahead)+at)
		}
	}
}

// TestP91Bytes: P9.1, each byte in a bare field, in quotes, and behind them.
func TestP91Bytes(t *testing.T) {
	for n := range 256 {
		x := string([]byte{byte(n)})
		for _, s := range []string{x, "a" + x, x + "a", "a" + x + "b", `"` + x + `"`, `"a` + x + `b"`, `""` + x, `"a"` + x + `"b"`, x + `""`, "a,b\r\nc" + x + "d"} {
			if got := parse(s); got != expected(s) {
				t.Errorf("Parse(%q): %v, not %v", s, got, expected(s))
			}
		}
	}
}

// TestP91Library: P9.1, as the library reads the texts that mean the same to it: no empty rows, no d in quotes.
func TestP91Library(t *testing.T) {
	asked := 0
	for s := range texts(6, "a", ",", `""`, `"`, "\r\n", "b\n") {
		rows, _, e := csv.Parse(s)
		lone := slices.ContainsFunc(rows, func(l []string) bool { return len(l) == 1 && l[0] == "" })
		deep := slices.ContainsFunc(rows, func(l []string) bool { return strings.Contains(strings.Join(l, ""), "\r") })
		if e != api.OK || lone || deep {
			continue
		}
		r := library.NewReader(strings.NewReader(s))
		r.FieldsPerRecord = -1
		want, err := r.ReadAll()
		if err != nil || shape(rows) != shape(want) {
			t.Errorf("Parse(%q): %q, not %q (%v)", s, rows, want, err)
		}
		asked++
	}
	if asked < 1000 {
		t.Error(asked)
	}
}

// TestP91Many: P9.1, many rows, many fields, long fields, and what is wrong behind them.
func TestP91Many(t *testing.T) {
	const n = 100000
	for s, want := range map[string][][]string{
		strings.Repeat("a,b\r\n", n):                   slices.Repeat([][]string{{"a", "b"}}, n),
		strings.Repeat("\r\n", n):                      slices.Repeat([][]string{{""}}, n),
		strings.Repeat(",", n):                         {make([]string, n+1)},
		strings.Repeat("x", n) + ",y":                  {{strings.Repeat("x", n), "y"}},
		`"` + strings.Repeat(`""`, n) + `",` + `""`:    {{strings.Repeat(`"`, n), ""}},
		strings.Repeat(`"a"",`+"\r\n"+`",`, n) + "end": {append(slices.Repeat([]string{"a\",\r\n"}, n), "end")},
	} {
		if got := parse(s); got != good(s, want) {
			t.Errorf("a text of %d bytes, as %q: %d %d", len(s), s[:9], got.at, got.e)
		}
		if got := parse(s + "\r\na\rb"); got != bad(len(s)+3) {
			t.Errorf("a wrong text of %d bytes, as %q: %d %d", len(s), s[:9], got.at, got.e)
		}
	}
}

// TestP91New: P9.1, an answer's rows are new memory, and share none with one another, their spare room too.
func TestP91New(t *testing.T) {
	const s = "a,b\r\nc,d,\"e\"\r\n\r\nf,g"
	want := [][]string{{"a", "b"}, {"c", "d", "e"}, {""}, {"f", "g"}}
	one, _, _ := csv.Parse(s)
	two, _, _ := csv.Parse(s)
	for i := range one {
		l := one[i][:cap(one[i])]
		for j := range l {
			l[j] = "!"
		}
		one[i] = one[i][:0]
		for k := i + 1; k < len(one); k++ {
			if !slices.Equal(one[k], want[k]) {
				t.Errorf("row %d, behind row %d was written: %q", k, i, one[k])
			}
		}
	}
	clear(one[:cap(one)])
	if shape(two) != shape(want) {
		t.Errorf("%q", two)
	}
	if got := parse(s); got != good(s, want) {
		t.Error(got)
	}
}

// written is a field's text, by the chapter's words.
func written(s string) string {
	if plain.MatchString(s) {
		return s
	}
	return `"` + strings.ReplaceAll(s, `"`, `""`) + `"`
}

// TestP92Field: P9.2, all texts of up to six edge bytes.
func TestP92Field(t *testing.T) {
	for s := range texts(6, "a", " ", ",", `"`, "\r", "\n") {
		if got := csv.Field(s); got != written(s) {
			t.Fatalf("Field(%q): %q, not %q", s, got, written(s))
		}
	}
	for n := range 256 {
		x := string([]byte{byte(n)})
		for _, s := range []string{x, "a" + x, x + "a", "\xc3" + x, `"` + x, x + x} {
			if got := csv.Field(s); got != written(s) {
				t.Errorf("Field(%q): %q, not %q", s, got, written(s))
			}
		}
	}
}

// TestP92Written: P9.2, fields' texts, written out.
func TestP92Written(t *testing.T) {
	for s, want := range map[string]string{
		"": `""`, "a": "a", " ": " ", " a ": " a ", "\t": "\t", "'": "'", ";": ";", "0": "0", "null": "null", `\`: `\`, "\x00": "\x00", "\xff": "\xff", "\u00e9\U0001F600": "\u00e9\U0001F600", "\u2028\v\f\u0085": "\u2028\v\f\u0085", "=1": "=1", "a;b": "a;b",
		",": `","`, `"`: `""""`, `""`: `""""""`, "\r": "\"\r\"", "\n": "\"\n\"", "\r\n": "\"\r\n\"", "a,b": `"a,b"`, `a"b`: `"a""b"`, `"a"`: `"""a"""`, "a\r": "\"a\r\"", "\na": "\"\na\"", "\xff,": "\"\xff,\"", ` ",`: `" "","`, "a\x00\"": "\"a\x00\"\"\"",
	} {
		if got := csv.Field(s); got != want {
			t.Errorf("Field(%q): %q, not %q", s, got, want)
		}
	}
	long := strings.Repeat("a\",\n", 50000)
	if got := csv.Field(long); got != written(long) {
		t.Error(len(got))
	}
}

// TestP92Print: P9.2, rows' text, written out.
func TestP92Print(t *testing.T) {
	for want, rows := range map[string][][]string{
		"": {}, "a\r\n": {{"a"}}, "\"\"\r\n": {{""}}, "a,b\r\n": {{"a", "b"}}, "\"\",\"\"\r\n": {{"", ""}}, "a\r\nb\r\n": {{"a"}, {"b"}}, "\"\"\r\n\"\"\r\n\"\"\r\n": {{""}, {""}, {""}},
		"a,\"\"\"b\"\"\"\r\n": {{"a", `"b"`}}, "a\r\nb,c,\"d,e\"\r\n\"\r\n\", \r\n": {{"a"}, {"b", "c", "d,e"}, {"\r\n", " "}}, "\xff,\x00,\"\xfe\"\"\"\r\n": {{"\xff", "\x00", "\xfe\""}},
	} {
		if got, e := csv.Print(rows); got != want || e != api.OK {
			t.Errorf("Print(%q): %q %d, not %q", rows, got, e, want)
		}
	}
	if got, e := csv.Print(nil); got != "" || e != api.OK {
		t.Errorf("Print(nil): %q %d", got, e)
	}
}

// TestP92PrintAll: P9.2, all rows of up to three fields, one, two or three of them.
func TestP92PrintAll(t *testing.T) {
	var rows [][]string
	for a := range texts(3, "", "a", `"`, ",") {
		rows = append(rows, []string{a}, []string{a, ""}, []string{"\r", a, a + "\n"})
	}
	line := func(l []string) string {
		var out []string
		for _, s := range l {
			out = append(out, written(s))
		}
		return strings.Join(out, ",") + "\r\n"
	}
	all := ""
	for i, l := range rows {
		all += line(l)
		for n, want := range []string{line(l), line(l) + line(rows[0]), line(rows[0]) + line(l)} {
			given := [][][]string{{l}, {l, rows[0]}, {rows[0], l}}[n]
			if got, e := csv.Print(given); got != want || e != api.OK {
				t.Fatalf("Print(%q): %q %d, not %q", given, got, e, want)
			}
		}
		if got, e := csv.Print(rows[:i+1]); got != all || e != api.OK {
			t.Fatalf("Print of %d rows: %d bytes, not %d", i+1, len(got), len(all))
		}
	}
}

// TestP92Arg: P9.2, a row without a field, wherever it stands.
func TestP92Arg(t *testing.T) {
	for _, none := range [][]string{nil, {}, make([]string, 0, 3)} {
		for n := range 6 {
			rows := slices.Repeat([][]string{{"a", "b"}}, 5)
			if got, e := csv.Print(slices.Insert(rows, n, none)); got != "" || e != api.ErrArg {
				t.Errorf("an empty row at %d: %q %d", n, got, e)
			}
		}
		if got, e := csv.Print([][]string{none}); got != "" || e != api.ErrArg {
			t.Errorf("an empty row alone: %q %d", got, e)
		}
	}
}

// TestP92Unchanged: P9.2, what is handed in isn't changed, its spare room neither.
func TestP92Unchanged(t *testing.T) {
	given := func() [][]string {
		one := []string{"a", `"`, "!", "!"}
		return [][]string{one[:2], {""}, {"!"}, nil}
	}
	rows := given()
	if got, e := csv.Print(rows[:2:3]); got != "a,\"\"\"\"\r\n\"\"\r\n" || e != api.OK {
		t.Errorf("%q %d", got, e)
	}
	csv.Print(rows)
	if shape(rows) != shape(given()) || shape([][]string{rows[0][:4]}) != shape([][]string{given()[0][:4]}) {
		t.Errorf("%q", rows)
	}
}

// TestP93Printed: P9.3, what is printed is read again, as the same rows.
func TestP93Printed(t *testing.T) {
	var fields []string
	for s := range texts(3, "a", " ", ",", `"`, "\r", "\n", "\xff") {
		fields = append(fields, s)
	}
	for i, s := range fields {
		for _, rows := range [][][]string{{{s}}, {{s, ""}}, {{"", s}}, {{s}, {s}}, {{fields[len(fields)-1-i], s}, {""}, {s, s, "x"}}, {fields[:i+1], {s}}} {
			text, e := csv.Print(rows)
			if e != api.OK || parse(text) != good(text, rows) {
				t.Fatalf("Print(%q): %q %d, and again %v", rows, text, e, parse(text))
			}
		}
		if got := parse(csv.Field(s)); got != good(csv.Field(s), [][]string{{s}}) {
			t.Errorf("Field(%q): %q, read as %v", s, csv.Field(s), got)
		}
	}
}

// TestP93Read: P9.3, what is read and printed is read as the same.
func TestP93Read(t *testing.T) {
	asked := 0
	for s := range texts(7, "a", ",", `"`, "\r", "\n") {
		rows, _, e := csv.Parse(s)
		if e != api.OK {
			continue
		}
		asked++
		text, e := csv.Print(rows)
		if e != api.OK || parse(text) != good(text, rows) {
			t.Fatalf("%q: printed %q %d, and again %v", s, text, e, parse(text))
		}
	}
	if asked < 1000 {
		t.Error(asked)
	}
}

// TestP93Together: P9.3, rows of two texts, the first of which ends by d a, are those of both.
func TestP93Together(t *testing.T) {
	var ends, others []string
	for s := range texts(5, "a", ",", `"`, "\r\n", "\n") {
		if whole.MatchString(s) {
			others = append(others, s)
			if strings.HasSuffix(s, "\r\n") {
				ends = append(ends, s)
			}
		}
	}
	if len(ends) < 50 || len(others) < 400 {
		t.Fatal(len(ends), len(others))
	}
	for _, a := range ends {
		one, _, _ := csv.Parse(a)
		for _, b := range others {
			two, _, _ := csv.Parse(b)
			if got := parse(a + b); got != good(a+b, slices.Concat(one, two)) {
				t.Fatalf("Parse(%q + %q): %v", a, b, got)
			}
		}
	}
}
