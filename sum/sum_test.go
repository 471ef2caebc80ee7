package sum_test

import (
	"bytes"
	"hash/crc32"
	"math"
	"slices"
	"testing"

	"douane/sum"
)

// most is the greatest number of 32 bits.
const most = 1<<32 - 1

// polys are polynomials in use, and those at the edges.
func polys() []int {
	return []int{sum.Poly, crc32.Castagnoli, crc32.Koopman, 0, 1, 2, 0xFF, 0x100, 0x04C11DB7, 0x7FFFFFFF, 0x80000000, 0x80000001, most - 1, most}
}

// noNumbers are none of 32 bits, though the low 32 bits of some would be one.
func noNumbers() []int {
	return []int{-1, -2, -most, -most - 1, -sum.Poly, math.MinInt, math.MinInt + 1, math.MinInt32, math.MaxInt, math.MaxInt - 1, most + 1, most + 2, 1<<32 + sum.Poly, 1 << 33, 1 << 62}
}

// oddTables are tables of no polynomial.
func oddTables() [][]int {
	rising, falling, mixed := make([]int, 256), make([]int, 256), make([]int, 256)
	for i := range 256 {
		rising[i], falling[i] = i, most-i
		mixed[i] = (i*0x9E3779B1 + 0x7F4A7C15) & most
	}
	return [][]int{make([]int, 256), slices.Repeat([]int{most}, 256), slices.Repeat([]int{0x01020304}, 256), rising, falling, mixed}
}

func tables() [][]int {
	l := oddTables()
	for _, p := range polys() {
		l = append(l, sum.Make(p))
	}
	return l
}

// noTables are of another length, or have a number, at whatever place, that may not be.
func noTables() [][]int {
	t := sum.Make(sum.Poly)
	l := [][]int{nil, {}, {0}, t[:1], t[:255], t[1:], append(slices.Clone(t), 0), append(slices.Clone(t), t...), append([]int{0}, t...)}
	for i, n := range noNumbers() {
		for _, at := range []int{0, 1, 7, 127, 128, 254, 255, 16 * i} {
			v := slices.Clone(t)
			v[at] = n
			l = append(l, v)
		}
	}
	return l
}

// texts are bytes of many lengths.
func texts() [][]byte {
	all := make([]byte, 256)
	for i := range all {
		all[i] = byte(i)
	}
	l := [][]byte{nil, {}, []byte("123456789"), []byte("a"), []byte("abc"), all, bytes.Repeat(all, 20), make([]byte, 1000), bytes.Repeat([]byte{0xFF}, 1000)}
	for i := range 256 {
		l = append(l, all[i:i+1], []byte{byte(i * 37), byte(i)}, bytes.Repeat([]byte{byte(i), byte(i * i)}, i%17))
	}
	return l
}

// made is a polynomial's table by the chapter's words.
func made(p int) []int {
	var t []int
	for x := range 256 {
		for range 8 {
			if x%2 == 1 {
				x = (x-1)/2 ^ p
			} else {
				x /= 2
			}
		}
		t = append(t, x)
	}
	return t
}

// summed is a sum by the chapter's words, of bytes behind those of a sum.
func summed(t []int, from int, b []byte) int {
	there := most - from
	for _, x := range b {
		there = t[there%256^int(x)] ^ there/256
	}
	return most - there
}

// TestP41Make: P4.1, tables of polynomials, by the words and by the library.
func TestP41Make(t *testing.T) {
	for _, p := range polys() {
		got := sum.Make(p)
		if !slices.Equal(got, made(p)) {
			t.Errorf("Make(%x): %x", p, got)
		}
		for i, n := range crc32.MakeTable(uint32(p)) {
			if len(got) == 256 && got[i] != int(n) {
				t.Errorf("Make(%x)[%d]: %x, not %x", p, i, got[i], n)
			}
		}
	}
	u := sum.Make(sum.Poly)
	if len(u) != 256 || u[0] != 0 || u[1] != 0x77073096 || u[2] != 0xEE0E612C || u[128] != 0xEDB88320 || u[255] != 0x2D02EF8D {
		t.Errorf("Make(Poly): %x", u)
	}
	if sum.Poly != 0xEDB88320 {
		t.Errorf("Poly: %x", sum.Poly)
	}
}

// TestP41MakeNone: P4.1, of what is no polynomial there is no table.
func TestP41MakeNone(t *testing.T) {
	for _, p := range noNumbers() {
		if got := sum.Make(p); len(got) != 0 {
			t.Errorf("Make(%x): %d numbers", p, len(got))
		}
	}
}

// TestP41New: P4.1, a table is new memory, spare room too.
func TestP41New(t *testing.T) {
	a, b := sum.Make(sum.Poly), sum.Make(sum.Poly)
	a = a[:cap(a)]
	for i := range a {
		a[i] = 5
	}
	if want := made(sum.Poly); !slices.Equal(b, want) || !slices.Equal(sum.Make(sum.Poly), want) {
		t.Error("two tables are one")
	}
}

// TestP41Of: P4.1, sums by tables of polynomials and by others.
func TestP41Of(t *testing.T) {
	for i, u := range tables() {
		for _, b := range texts() {
			if got, want := sum.Of(u, b), summed(u, 0, b); got != want {
				t.Fatalf("table %d: Of(%x): %x, not %x", i, b, got, want)
			}
		}
	}
	for _, p := range polys() {
		u, v := sum.Make(p), crc32.MakeTable(uint32(p))
		for _, b := range texts() {
			if got, want := sum.Of(u, b), int(crc32.Checksum(b, v)); got != want {
				t.Fatalf("%x: Of(%x): %x, not %x", p, b, got, want)
			}
		}
	}
}

// TestP41Written: P4.1, by sums written out.
func TestP41Written(t *testing.T) {
	u := sum.Make(sum.Poly)
	for s, want := range map[string]int{
		"": 0, "a": 0xE8B7BE43, "b": 0x71BEEFF9, "abc": 0x352441C2, "\x00": 0xD202EF8D, "\xff": 0xFF000000, "\xff\xff\xff\xff": 0xFFFFFFFF, "\x00\x00\x00\x00": 0x2144DF1C,
		"The quick brown fox jumps over the lazy dog": 0x414FA339,
	} {
		if got := sum.Of(u, []byte(s)); got != want {
			t.Errorf("%q: %x, not %x", s, got, want)
		}
	}
}

// TestP41NoTable: P4.1, by what is no table there is no sum, whatever it is of.
func TestP41NoTable(t *testing.T) {
	for i, u := range noTables() {
		for _, b := range [][]byte{nil, {}, {0}, []byte("123456789")} {
			if got := sum.Of(u, b); got != -1 {
				t.Errorf("%d: Of(%x): %x", i, b, got)
			}
			for _, s := range []int{0, 1, sum.Poly, most, -1, most + 1} {
				if got := sum.More(u, s, b); got != -1 {
					t.Errorf("%d: More(%x, %x): %x", i, s, b, got)
				}
			}
		}
	}
}

// TestP41More: P4.1, of any sum and bytes behind it; of none, that sum.
func TestP41More(t *testing.T) {
	for i, u := range tables() {
		for _, s := range []int{0, 1, 0xFF, 0x100, sum.Poly, 0x7FFFFFFF, 0x80000000, most - 1, most} {
			for _, b := range texts() {
				if got, want := sum.More(u, s, b), summed(u, s, b); got != want {
					t.Fatalf("table %d: More(%x, %x): %x, not %x", i, s, b, got, want)
				}
			}
			if got := sum.More(u, s, nil); got != s {
				t.Errorf("table %d: More(%x, nothing): %x", i, s, got)
			}
		}
	}
}

// TestP41NoSum: P4.1, what is no sum has none behind it.
func TestP41NoSum(t *testing.T) {
	for _, u := range tables() {
		for _, s := range noNumbers() {
			for _, b := range [][]byte{nil, {0}, []byte("123456789")} {
				if got := sum.More(u, s, b); got != -1 {
					t.Errorf("More(%x, %x): %x", s, b, got)
				}
			}
		}
	}
}

// TestP41Room: P4.1, what is handed in stays as it is, and its spare room is none of it.
func TestP41Room(t *testing.T) {
	room := append(sum.Make(sum.Poly), -1, -2)
	b := []byte("123456789xyz")
	if got := sum.Of(room[:256:258], b[:9]); got != 0xCBF43926 {
		t.Errorf("Of: %x", got)
	}
	if got := sum.More(room[:256:258], sum.Of(room[:256], b[:4]), b[4:9]); got != 0xCBF43926 {
		t.Errorf("More: %x", got)
	}
	if !slices.Equal(room[:256], made(sum.Poly)) || room[256] != -1 || room[257] != -2 || string(b) != "123456789xyz" {
		t.Error("changed")
	}
	if got := sum.Of(room[:255], b); got != -1 {
		t.Errorf("Of by 255 numbers: %x", got)
	}
}

// TestP42Put: P4.2, by bytes written out, and each bit of a number.
func TestP42Put(t *testing.T) {
	for n, want := range map[int]string{
		0: "\x00\x00\x00\x00", 1: "\x00\x00\x00\x01", 0x01020304: "\x01\x02\x03\x04", 0xFF: "\x00\x00\x00\xff", 0x100: "\x00\x00\x01\x00", 0x80000000: "\x80\x00\x00\x00", most: "\xff\xff\xff\xff", sum.Poly: "\xed\xb8\x83\x20",
		most + 1: "\x00\x00\x00\x00", 0x1234567890: "\x34\x56\x78\x90", math.MaxInt: "\xff\xff\xff\xff", math.MaxInt - 1: "\xff\xff\xff\xfe", 1 << 62: "\x00\x00\x00\x00",
		-1: "\xff\xff\xff\xff", -2: "\xff\xff\xff\xfe", -256: "\xff\xff\xff\x00", math.MinInt: "\x00\x00\x00\x00", math.MinInt + 5: "\x00\x00\x00\x05", -most: "\x00\x00\x00\x01",
	} {
		if got := sum.Put(n); string(got) != want {
			t.Errorf("Put(%x): %x, not %x", n, got, want)
		}
	}
	for i := range 64 {
		want := make([]byte, 4)
		if i < 32 {
			want[3-i/8] = 1 << (i % 8)
		}
		n := uint64(1) << i
		if got := sum.Put(int(n)); !bytes.Equal(got, want) {
			t.Errorf("Put(bit %d): %x", i, got)
		}
	}
}

// TestP42Get: P4.2, of four bytes.
func TestP42Get(t *testing.T) {
	for s, want := range map[string]int{
		"\x00\x00\x00\x00": 0, "\x00\x00\x00\x01": 1, "\x01\x02\x03\x04": 0x01020304, "\x80\x00\x00\x00": 0x80000000, "\xff\xff\xff\xff": most, "\xff\xff\xff\xfe": most - 1, "\xed\xb8\x83\x20": sum.Poly, "\x00\xff\x00\xff": 0xFF00FF, "1234": 0x31323334,
	} {
		if got := sum.Get([]byte(s)); got != want {
			t.Errorf("Get(%x): %x, not %x", s, got, want)
		}
	}
	for i := range 32 {
		b := make([]byte, 4)
		b[3-i/8] = 1 << (i % 8)
		if got := sum.Get(b); got != 1<<i {
			t.Errorf("Get(%x): %x", b, got)
		}
	}
}

// TestP42GetNone: P4.2, of other than four bytes, whatever stands behind them.
func TestP42GetNone(t *testing.T) {
	b := []byte{0, 0, 1, 2, 3, 4, 5, 6, 7, 8, 9, 10}
	for n := range len(b) + 1 {
		if n == 4 {
			continue
		}
		if got := sum.Get(b[:n]); got != -1 {
			t.Errorf("Get of %d bytes: %x", n, got)
		}
	}
	if sum.Get(nil) != -1 || sum.Get([]byte{}) != -1 || sum.Get(make([]byte, 1000)) != -1 {
		t.Error("Get of none, or of many")
	}
	if got := sum.Get(b[2:6]); got != 0x01020304 {
		t.Errorf("Get of four within more: %x", got)
	}
}

// TestP42New: P4.2, a number's bytes are new memory, and bytes that are read stay as they are.
func TestP42New(t *testing.T) {
	a, b := sum.Put(0x01020304), sum.Put(0x01020304)
	a = a[:cap(a)]
	for i := range a {
		a[i] = 9
	}
	if string(b) != "\x01\x02\x03\x04" || string(sum.Put(0x01020304)) != "\x01\x02\x03\x04" {
		t.Error("two numbers' bytes are one")
	}
	if sum.Get(b); string(b) != "\x01\x02\x03\x04" {
		t.Errorf("changed: %x", b)
	}
}

// TestP43Parts: P4.3, a sum of parts is that of the whole, however it is cut.
func TestP43Parts(t *testing.T) {
	whole := []byte("123456789\x00\xff\x80\x7fab\x00\x00")
	for n, u := range tables() {
		want := sum.Of(u, whole)
		for i := range len(whole) + 1 {
			for j := i; j <= len(whole); j++ {
				got := sum.More(u, sum.More(u, sum.Of(u, whole[:i]), whole[i:j]), whole[j:])
				if got != want {
					t.Fatalf("table %d, cut at %d and %d: %x, not %x", n, i, j, got, want)
				}
			}
		}
		one := sum.Of(u, nil)
		for i := range whole {
			one = sum.More(u, one, whole[i:i+1])
		}
		if one != want {
			t.Errorf("table %d, byte by byte: %x, not %x", n, one, want)
		}
	}
}

// TestP43Check: P4.3, the sum that the chapter writes out, and of nothing 0 by each table.
func TestP43Check(t *testing.T) {
	if got := sum.Of(sum.Make(sum.Poly), []byte("123456789")); got != 0xCBF43926 {
		t.Errorf("%x", got)
	}
	for i, u := range tables() {
		if sum.Of(u, nil) != 0 || sum.Of(u, []byte{}) != 0 {
			t.Errorf("table %d: of nothing", i)
		}
	}
}

// TestP43Put: P4.3, what is put is got, as far as it is of 32 bits, and put again is the same bytes.
func TestP43Put(t *testing.T) {
	for i := range 33 {
		for d := -3; d <= 3; d++ {
			if n := 1<<i + d; n >= 0 && n <= most && sum.Get(sum.Put(n)) != n {
				t.Errorf("%x: %x", n, sum.Get(sum.Put(n)))
			}
		}
	}
	for _, n := range append(noNumbers(), polys()...) {
		if got := sum.Get(sum.Put(n)); got != n&most {
			t.Errorf("%x: %x", n, got)
		}
	}
	for x := range 256 {
		for _, b := range [][]byte{{byte(x), 0, 0, 0}, {0, byte(x), 0, 255}, {255, 1, byte(x), 2}, {7, 128, 127, byte(x)}} {
			if got := sum.Put(sum.Get(b)); !bytes.Equal(got, b) {
				t.Errorf("%x: %x", b, got)
			}
		}
	}
}
