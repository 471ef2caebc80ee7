package feed_test

import (
	"bytes"
	"encoding/binary"
	"hash/crc32"
	"math"
	"slices"
	"testing"

	"douane/api"
	"douane/feed"
)

// top is the greatest most that may be.
const top = 65535

// framed is a frame's bytes by the chapter's words and the library's sum, of any kind and version, whether they may be or not.
func framed(version, kind byte, payload []byte) []byte {
	b := []byte{0xD0, 0xA1, version, kind}
	b = binary.BigEndian.AppendUint32(b, uint32(len(payload)))
	b = append(b, payload...)
	return binary.BigEndian.AppendUint32(b, crc32.ChecksumIEEE(b[2:]))
}

// put is a right frame's bytes.
func put(kind byte, payload string) []byte { return framed(1, kind, []byte(payload)) }

// turned is bytes, one of them another.
func turned(b []byte, at int, x byte) []byte {
	c := slices.Clone(b)
	c[at] = x
	return c
}

// told is what comes of bytes.
type told struct {
	frames []feed.Frame
	code   api.Errno
	waits  int
}

// read is what comes of bytes at once, by the chapter's words, byte by byte.
func read(most int, b []byte) told {
	var t told
	first := 0
	for i, x := range b {
		at := i - first
		wrong := at == 0 && x != 0xD0 || at == 1 && x != 0xA1 || at == 2 && x != 1 || at == 3 && (x == 0 || x > 9)
		if wrong {
			return told{t.frames, api.ErrForm, 0}
		}
		if at < 7 {
			continue
		}
		n := int(binary.BigEndian.Uint32(b[first+4:]))
		if n > most {
			return told{t.frames, api.ErrLong, 0}
		}
		if at < 8+n+3 {
			continue
		}
		if crc32.ChecksumIEEE(b[first+2:first+8+n]) != binary.BigEndian.Uint32(b[first+8+n:]) {
			return told{t.frames, api.ErrSum, 0}
		}
		t.frames = append(t.frames, feed.Frame{Kind: int(b[first+3]), Payload: b[first+8 : first+8+n]})
		first = i + 1
	}
	t.waits = len(b) - first
	return t
}

// taken is what a feed comes to by bytes in pieces.
func taken(most int, pieces ...[]byte) told {
	f := feed.New(most)
	var l []feed.Frame
	for _, p := range pieces {
		l = append(l, f.Take(p)...)
	}
	return told{l, f.Closed(), f.Waits()}
}

func sameFrame(a, b feed.Frame) bool { return a.Kind == b.Kind && bytes.Equal(a.Payload, b.Payload) }

func (t told) same(u told) bool {
	return slices.EqualFunc(t.frames, u.frames, sameFrame) && t.code == u.code && t.waits == u.waits
}

// streams are bytes with frames, some that end within one, some with one that is broken, and with bytes behind that.
func streams() [][]byte {
	a, b, c := put(1, "a"), put(9, ""), put(4, "\xd0\xa1\x01\x01\x00\x00\x00\x00")
	good := slices.Concat(a, b, c, a)
	l := [][]byte{nil, a, b, c, good, good[:len(good)-1], good[:len(good)-12], slices.Concat(b, b, b, a[:8]), a[:7]}
	for _, bad := range [][]byte{
		turned(a, 0, 0xD1), turned(a, 1, 0), turned(a, 2, 2), turned(a, 3, 0), turned(a, 3, 10), turned(a, 4, 1), turned(a, 7, 11), turned(a, 8, 'b'), turned(a, 12, a[12]+1),
		turned(a, 7, 0), turned(a, 7, 2), framed(0, 1, nil), put(1, "12345678901"), {0xA1}, {0}, []byte("no frame"),
	} {
		l = append(l, bad, slices.Concat(b, bad, a), slices.Concat(a, c, bad))
	}
	return l
}

// TestP51Put: P5.1, frames' bytes, written out and by the library's sum.
func TestP51Put(t *testing.T) {
	for _, x := range []struct {
		kind       int
		payload, b string
	}{
		{1, "a", "\xd0\xa1\x01\x01\x00\x00\x00\x01a\xd3\xe9\x67\xe0"},
		{9, "", "\xd0\xa1\x01\x09\x00\x00\x00\x00\x77\x8e\x10\x77"},
		{5, "\x00\x00\x00\x01", "\xd0\xa1\x01\x05\x00\x00\x00\x04\x00\x00\x00\x01\xc4\x58\xd0\x51"},
	} {
		got, e := feed.Put(x.kind, []byte(x.payload), 10)
		if e != api.OK || string(got) != x.b {
			t.Errorf("Put(%d, %q): %x, %d", x.kind, x.payload, got, e)
		}
	}
	long := bytes.Repeat([]byte("0123456789abcde"), 4369)
	for kind := 1; kind <= 9; kind++ {
		for _, n := range []int{0, 1, 2, 3, 4, 5, 9, 255, 256, 257, 1000, top - 1, top} {
			for _, most := range []int{n, n + 1, top} {
				got, e := feed.Put(kind, long[:n], min(most, top))
				if e != api.OK || !bytes.Equal(got, framed(1, byte(kind), long[:n])) {
					t.Errorf("Put(%d, %d bytes, %d): %d", kind, n, most, e)
				}
			}
		}
	}
}

// TestP51Arg: P5.1, of a kind or a most that may not be there are no bytes, however long the payload is.
func TestP51Arg(t *testing.T) {
	for _, n := range []int{0, 1, 10, top, top + 1} {
		b := make([]byte, n)
		for _, kind := range []int{0, -1, -9, 10, 11, 255, 256, 257, 265, -255, 1<<32 + 1, 1 << 62, math.MinInt, math.MaxInt} {
			for _, most := range []int{0, 5, top, -1, top + 1} {
				if got, e := feed.Put(kind, b, most); e != api.ErrArg || len(got) != 0 {
					t.Errorf("Put(%d, %d bytes, %d): %x, %d", kind, n, most, got, e)
				}
			}
		}
		for _, most := range []int{-1, -2, -top, top + 1, top + 2, 1 << 32, 1<<32 + 10, math.MinInt, math.MaxInt} {
			for _, kind := range []int{1, 5, 9} {
				if got, e := feed.Put(kind, b, most); e != api.ErrArg || len(got) != 0 {
					t.Errorf("Put(%d, %d bytes, %d): %x, %d", kind, n, most, got, e)
				}
			}
		}
	}
}

// TestP51Long: P5.1, a payload may have as many bytes as the most, and not one more.
func TestP51Long(t *testing.T) {
	for _, most := range []int{0, 1, 2, 10, 255, 256, top - 1, top} {
		if got, e := feed.Put(1, make([]byte, most), most); e != api.OK || len(got) != most+12 {
			t.Errorf("%d: %d bytes, %d", most, len(got), e)
		}
		for _, n := range []int{most + 1, most + 2, most + 65536, 2*most + 1} {
			if got, e := feed.Put(9, make([]byte, n), most); e != api.ErrLong || len(got) != 0 {
				t.Errorf("%d bytes, most %d: %d bytes, %d", n, most, len(got), e)
			}
		}
	}
}

// TestP51New: P5.1, a frame's bytes are new memory, and the payload stays as it is, its spare room too.
func TestP51New(t *testing.T) {
	room := []byte("abcdefghijklmnopqrst")
	a, _ := feed.Put(1, room[:3], 3)
	b, _ := feed.Put(1, room[:3], 3)
	if string(room) != "abcdefghijklmnopqrst" {
		t.Errorf("changed: %q", room)
	}
	a = a[:cap(a)]
	for i := range a {
		a[i] = 7
	}
	room[0] = 'x'
	if !bytes.Equal(b, put(1, "abc")) {
		t.Errorf("not its own: %x", b)
	}
}

// TestP52Take: P5.2, each byte of frames alone: a frame comes with its last one, and Waits counts till then.
func TestP52Take(t *testing.T) {
	f := feed.New(10)
	if f.Waits() != 0 || f.Closed() != api.OK || len(f.Take(nil)) != 0 || len(f.Take([]byte{})) != 0 || f.Waits() != 0 {
		t.Error("at first")
	}
	for kind := byte(1); kind <= 9; kind++ {
		for n := range 11 {
			b := put(kind, "0123456789"[:n])
			for i := range b {
				l := f.Take(b[i : i+1])
				if i < len(b)-1 && (len(l) != 0 || f.Waits() != i+1) || f.Closed() != api.OK {
					t.Fatalf("%x, byte %d: %v, %d, %d", b, i, l, f.Waits(), f.Closed())
				}
				if i == len(b)-1 && (len(l) != 1 || l[0].Kind != int(kind) || string(l[0].Payload) != "0123456789"[:n] || f.Waits() != 0) {
					t.Fatalf("%x: %v, %d", b, l, f.Waits())
				}
			}
			if len(f.Take(nil)) != 0 {
				t.Error("of nothing")
			}
		}
	}
}

// TestP52Many: P5.2, all frames that are whole with a piece, in order, and none of them again.
func TestP52Many(t *testing.T) {
	var all []byte
	for i := range 500 {
		all = append(all, framed(1, byte(i%9+1), bytes.Repeat([]byte{byte(i)}, i%50))...)
	}
	f := feed.New(50)
	for round := range 3 {
		l := f.Take(append(slices.Clone(all), 0xD0, 0xA1, 1))
		if len(l) != 500 || f.Waits() != 3 {
			t.Fatalf("round %d: %d, %d", round, len(l), f.Waits())
		}
		for i, x := range l {
			if x.Kind != i%9+1 || !bytes.Equal(x.Payload, bytes.Repeat([]byte{byte(i)}, i%50)) {
				t.Errorf("round %d: frame %d: %v", round, i, x)
			}
		}
		if l := f.Take(put(7, "end")[3:]); len(l) != 1 || l[0].Kind != 7 || string(l[0].Payload) != "end" || f.Waits() != 0 {
			t.Errorf("round %d: %v", round, l)
		}
	}
}

// TestP52Form: P5.2, of each of the first four places every byte: the feed is closed at once if it may not stand there, else not.
func TestP52Form(t *testing.T) {
	b := put(3, "abc")
	for at := range 4 {
		for x := range 256 {
			f := feed.New(10)
			f.Take(b[:at])
			if f.Closed() != api.OK || f.Waits() != at {
				t.Fatalf("ahead of place %d: %d, %d", at, f.Closed(), f.Waits())
			}
			f.Take([]byte{byte(x)})
			right := x == int(b[at]) || at == 3 && x >= 1 && x <= 9
			if right && (f.Closed() != api.OK || f.Waits() != at+1) || !right && (f.Closed() != api.ErrForm || f.Waits() != 0) {
				t.Errorf("place %d, %x: %d, %d", at, x, f.Closed(), f.Waits())
			}
		}
	}
}

// TestP52Long: P5.2, a length above the most is told with its fourth byte, neither ahead of it nor behind.
func TestP52Long(t *testing.T) {
	for _, most := range []int{0, 1, 10, 255, 256, top - 1, top} {
		for _, n := range []uint32{0, 1, 10, 11, 255, 256, 257, top - 1, top, top + 1, 1 << 16, 1 << 24, 1<<24 + 1, 1 << 31, 1<<31 + 5, math.MaxUint32} {
			f := feed.New(most)
			b := binary.BigEndian.AppendUint32([]byte{0xD0, 0xA1, 1, 1}, n)
			for i := range 7 {
				f.Take(b[i : i+1])
			}
			if f.Closed() != api.OK || f.Waits() != 7 {
				t.Errorf("most %d, length %d: early %d, %d", most, n, f.Closed(), f.Waits())
			}
			f.Take(b[7:])
			if fits := int(n) <= most; fits && (f.Closed() != api.OK || f.Waits() != 8) || !fits && (f.Closed() != api.ErrLong || f.Waits() != 0) {
				t.Errorf("most %d, length %d: %d, %d", most, n, f.Closed(), f.Waits())
			}
		}
	}
}

// TestP52Sum: P5.2, a sum that isn't right is told with the frame's last byte, whichever bit is wrong, and not ahead.
func TestP52Sum(t *testing.T) {
	b := put(3, "abc")
	for at := 8; at < len(b); at++ {
		for bit := range 8 {
			c := turned(b, at, b[at]^1<<bit)
			f := feed.New(10)
			if l := f.Take(c[:len(c)-1]); len(l) != 0 || f.Closed() != api.OK || f.Waits() != len(c)-1 {
				t.Errorf("%x: early %d, %d", c, f.Closed(), f.Waits())
			}
			if l := f.Take(c[len(c)-1:]); len(l) != 0 || f.Closed() != api.ErrSum || f.Waits() != 0 {
				t.Errorf("%x: %v, %d, %d", c, l, f.Closed(), f.Waits())
			}
		}
	}
	head := slices.Concat(b[:11], binary.BigEndian.AppendUint32(nil, crc32.ChecksumIEEE(b[:11])))
	payload := slices.Concat(b[:11], binary.BigEndian.AppendUint32(nil, crc32.ChecksumIEEE(b[8:11])))
	kind := turned(b, 3, 4)
	for _, c := range [][]byte{head, payload, kind, slices.Concat(b[:11], b[14:], b[13:14], b[12:13], b[11:12])} {
		if got := taken(10, c); !got.same(told{nil, api.ErrSum, 0}) {
			t.Errorf("%x: %v", c, got)
		}
	}
}

// TestP52First: P5.2, the first error is told, whatever is wrong behind it, and it stays.
func TestP52First(t *testing.T) {
	for _, x := range []struct {
		b    string
		code api.Errno
	}{
		{"\xd0\xa1\x02\x00\xff\xff\xff\xff", api.ErrForm},
		{"\xd0\xa1\x01\x0a\xff\xff\xff\xff", api.ErrForm},
		{"\xd0\xa1\x01\x01\xff\xff\xff\xff\x00\x00\x00\x00", api.ErrLong},
		{"\xd0\xa1\x01\x01\x00\x00\x00\x00\x00\x00\x00\x00\x00", api.ErrSum},
		{"\xd0\xa1\x01\x01\x00\x00\x00\x00\x00\x00\x00", api.OK},
	} {
		if got := taken(10, []byte(x.b)); got.code != x.code || len(got.frames) != 0 {
			t.Errorf("%x: %v", x.b, got)
		}
	}
}

// TestP52Closed: P5.2, what was whole ahead of an error counts, in the same piece too; behind it nothing is taken, and the error stays.
func TestP52Closed(t *testing.T) {
	a := put(2, "ab")
	for _, x := range []struct {
		bad  []byte
		code api.Errno
	}{{[]byte{0}, api.ErrForm}, {[]byte{0xD0, 0xA1, 1, 0}, api.ErrForm}, {put(1, "12345678901")[:8], api.ErrLong}, {turned(a, 13, a[13]+1), api.ErrSum}} {
		for n := range 4 {
			for _, behind := range [][]byte{nil, a, slices.Concat(a, a)} {
				f := feed.New(10)
				l := f.Take(slices.Concat(bytes.Repeat(a, n), x.bad, behind))
				if len(l) != n || f.Closed() != x.code || f.Waits() != 0 {
					t.Errorf("%x behind %d: %v, %d, %d", x.bad, n, l, f.Closed(), f.Waits())
				}
				for _, more := range [][]byte{a, nil, {0xD0}, put(1, "12345678901"), {5}, turned(a, 13, 0)} {
					if l := f.Take(more); len(l) != 0 || f.Closed() != x.code || f.Waits() != 0 {
						t.Errorf("%x: closed, and %x: %v, %d, %d", x.bad, more, l, f.Closed(), f.Waits())
					}
				}
			}
		}
	}
}

// TestP52Most: P5.2, a most below 0 is 0, one above 65,535 is that.
func TestP52Most(t *testing.T) {
	for most, is := range map[int]int{
		math.MinInt: 0, -65536: 0, -5: 0, -1: 0, 0: 0, 1: 1, 2: 2, 1000: 1000, top - 1: top - 1, top: top, top + 1: top, 70000: top, 1 << 32: top, 1<<32 + 1: top, math.MaxInt: top,
	} {
		b := framed(1, 6, make([]byte, is))
		if got := taken(most, b); !got.same(told{[]feed.Frame{{Kind: 6, Payload: make([]byte, is)}}, api.OK, 0}) {
			t.Errorf("New(%d): %d bytes: %d, %d", most, is, got.code, got.waits)
		}
		if got := taken(most, framed(1, 6, make([]byte, is+1))); !got.same(told{nil, api.ErrLong, 0}) {
			t.Errorf("New(%d): %d bytes: %d, %d", most, is+1, got.code, got.waits)
		}
	}
}

// TestP52Nil: P5.2, a nil feed.
func TestP52Nil(t *testing.T) {
	var f *feed.Feed
	for _, b := range [][]byte{nil, {}, {0xD0}, put(1, "a"), {0}} {
		if l := f.Take(b); len(l) != 0 || f.Closed() != api.ErrArg || f.Waits() != 0 {
			t.Errorf("%x: %v, %d, %d", b, l, f.Closed(), f.Waits())
		}
	}
}

// TestP52Two: P5.2, two feeds have nothing of one another.
func TestP52Two(t *testing.T) {
	f, g := feed.New(10), feed.New(10)
	a, b := put(1, "one"), put(2, "two")
	for i := range a {
		l, m := f.Take(a[i:i+1]), g.Take(b[i:i+1])
		if i == len(a)-1 && (len(l) != 1 || len(m) != 1 || string(l[0].Payload) != "one" || string(m[0].Payload) != "two") {
			t.Errorf("%v, %v", l, m)
		}
	}
	f.Take([]byte{0})
	if f.Closed() != api.ErrForm || g.Closed() != api.OK || len(g.Take(b)) != 1 || len(feed.New(10).Take(a)) != 1 {
		t.Error("closed by another one")
	}
}

// TestP52Pieces: P5.2, a piece is neither changed nor kept, nor its spare room, and frames don't change with it.
func TestP52Pieces(t *testing.T) {
	all := slices.Concat(put(1, "abc"), put(2, "defg"), put(3, "hij"))
	for cut := range len(all) + 1 {
		f := feed.New(10)
		room := append(slices.Clone(all[:cut]), "spare room"...)
		l := f.Take(room[:cut])
		if !bytes.Equal(room[:cut], all[:cut]) || string(room[cut:]) != "spare room" {
			t.Errorf("cut at %d: changed", cut)
		}
		clear(room[:cap(room)])
		rest := slices.Clone(all[cut:])
		l = append(l, f.Take(rest)...)
		clear(rest)
		if want := read(10, all); !(told{l, f.Closed(), f.Waits()}).same(want) {
			t.Errorf("cut at %d: %v", cut, l)
		}
	}
}

// TestP52New: P5.2, frames are new memory: what is written over one, or behind it, is seen in no other one, and not by the feed.
func TestP52New(t *testing.T) {
	all := slices.Concat(put(1, "abc"), put(2, ""), put(3, "hij"), put(4, "klm"), put(5, "nopqrs"))
	for cut := range len(all) + 1 {
		f := feed.New(10)
		spoil := func(l []feed.Frame, ahead int, want []feed.Frame) {
			if !slices.EqualFunc(l, want[ahead:ahead+len(l)], sameFrame) {
				t.Errorf("cut at %d: %v", cut, l)
			}
			for i, x := range l {
				_ = append(x.Payload, "!!!!!!!!!!!!!!!!!!!!!!!!!!!!!!"...)
				p := x.Payload[:cap(x.Payload)]
				for k := range p {
					p[k] = '?'
				}
				if !slices.EqualFunc(l[i+1:], want[ahead+i+1:ahead+len(l)], sameFrame) {
					t.Errorf("cut at %d: spoilt %v", cut, l[i+1:])
				}
			}
			l = l[:cap(l)]
			clear(l)
		}
		want := read(10, all).frames
		first := f.Take(all[:cut])
		n := len(first)
		spoil(first, 0, want)
		if f.Waits() != read(10, all[:cut]).waits {
			t.Errorf("cut at %d: waits %d", cut, f.Waits())
		}
		second := f.Take(all[cut:])
		if n+len(second) != len(want) {
			t.Fatalf("cut at %d: %d and %d", cut, n, len(second))
		}
		spoil(second, n, want)
	}
}

// TestP52Kept: P5.2, frames that were handed on stay as they are, whatever is taken behind them.
func TestP52Kept(t *testing.T) {
	f := feed.New(10)
	var l []feed.Frame
	b := slices.Concat(put(1, "abc"), put(2, "defg"))
	for range 20 {
		for i := 0; i < len(b); i += 5 {
			l = append(l, f.Take(b[i:min(i+5, len(b))])...)
		}
	}
	f.Take([]byte("nothing"))
	if want := read(10, bytes.Repeat(b, 20)).frames; !slices.EqualFunc(l, want, sameFrame) {
		t.Errorf("%v", l)
	}
}

// TestP53At: P5.3, of each beginning of streams at once, by the chapter's words.
func TestP53At(t *testing.T) {
	for _, most := range []int{0, 1, 8, 10, top} {
		for _, b := range streams() {
			for n := range len(b) + 1 {
				if got, want := taken(most, b[:n]), read(most, b[:n]); !got.same(want) {
					t.Errorf("most %d, %x: %v, not %v", most, b[:n], got, want)
				}
			}
		}
	}
}

// TestP53Cuts: P5.3, streams cut at each two places, empty pieces too.
func TestP53Cuts(t *testing.T) {
	for _, b := range streams() {
		want := read(10, b)
		for i := range len(b) + 1 {
			for j := i; j <= len(b); j++ {
				if got := taken(10, b[:i], b[i:j], b[j:]); !got.same(want) {
					t.Fatalf("%x cut at %d and %d: %v, not %v", b, i, j, got, want)
				}
			}
		}
	}
}

// TestP53Sizes: P5.3, streams in pieces of one size each; after each piece, what comes of all up to it.
func TestP53Sizes(t *testing.T) {
	for _, b := range append(streams(), bytes.Repeat(slices.Concat(put(1, "a"), put(9, ""), put(5, "12345678")), 30)) {
		for size := 1; size <= 41; size++ {
			f := feed.New(10)
			var l []feed.Frame
			for at := 0; at < len(b); at += size {
				end := min(at+size, len(b))
				l = append(l, f.Take(b[at:end])...)
				if got, want := (told{l, f.Closed(), f.Waits()}), read(10, b[:end]); !got.same(want) {
					t.Fatalf("%x in pieces of %d, up to %d: %v, not %v", b, size, end, got, want)
				}
			}
		}
	}
}

// TestP53Large: P5.3, the largest frames, byte by byte, and with pieces that end within them.
func TestP53Large(t *testing.T) {
	payload := make([]byte, top)
	for i := range payload {
		payload[i] = byte(i * 7)
	}
	b := slices.Concat(framed(1, 8, payload), put(1, "a"), framed(1, 7, payload))
	want := read(top, b)
	if len(want.frames) != 3 {
		t.Fatal(len(want.frames))
	}
	for _, size := range []int{1, 2, 3, 1000, top, top + 11, top + 12, top + 13, 2 * top} {
		if got := taken(top, slices.Collect(slices.Chunk(b, size))...); !got.same(want) {
			t.Errorf("pieces of %d: %d frames, %d, %d", size, len(got.frames), got.code, got.waits)
		}
	}
}

// TestP54: P5.4, what was put comes out, of a feed of that most, and of the greatest.
func TestP54(t *testing.T) {
	var all []byte
	var want []feed.Frame
	for kind := 1; kind <= 9; kind++ {
		for _, n := range []int{0, 1, 2, 7, 8, 12, 13, 255, 256, 4000} {
			payload := bytes.Repeat([]byte{0xD0, 0xA1, byte(kind), byte(n)}, n/4+1)[:n]
			b, e := feed.Put(kind, payload, n)
			x := feed.Frame{Kind: kind, Payload: payload}
			if got := taken(n, b); e != api.OK || !got.same(told{[]feed.Frame{x}, api.OK, 0}) {
				t.Errorf("kind %d, %d bytes: %d, %v", kind, n, e, got)
			}
			all, want = append(all, b...), append(want, x)
		}
	}
	if got := taken(top, all); !got.same(told{want, api.OK, 0}) {
		t.Errorf("all: %d frames, %d, %d", len(got.frames), got.code, got.waits)
	}
	for n := range 300 {
		payload := bytes.Repeat([]byte{byte(n)}, n)
		b, _ := feed.Put(n%9+1, payload, top)
		if got := taken(n, b); !got.same(told{[]feed.Frame{{Kind: n%9 + 1, Payload: payload}}, api.OK, 0}) {
			t.Errorf("%d bytes: %v", n, got)
		}
		if n > 0 && taken(n-1, b).code != api.ErrLong {
			t.Errorf("%d bytes, of a smaller most", n)
		}
	}
}
