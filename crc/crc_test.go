package crc

import (
	"bytes"
	"hash/crc32"
	"math/bits"
	"slices"
	"strings"
	"testing"
)

// dice is a row of numbers that is the same whenever it is thrown.
type dice uint64

func (d *dice) next() uint64 {
	*d ^= *d << 13
	*d ^= *d >> 7
	*d ^= *d << 17
	return uint64(*d)
}

func (d *dice) octets(n int) []byte {
	b := make([]byte, n)
	for i := range b {
		b[i] = byte(d.next() >> 32)
	}
	return b
}

// plain is the sum as the chapter's words say it, bit by bit.
func plain(b []byte) uint32 {
	s := uint32(0xffffffff)
	for _, c := range b {
		s ^= uint32(c)
		for range 8 {
			out := s & 1
			s >>= 1
			if out == 1 {
				s ^= 0xedb88320
			}
		}
	}
	return ^s
}

// wantSum holds Sum, and More of nothing, against what is right.
func wantSum(t *testing.T, b []byte, want uint32) {
	t.Helper()
	if got := Sum(b); got != want {
		t.Errorf("P18.1: Sum(%x): %08x; want %08x", cut(b), got, want)
	}
	if got := More(0, b); got != want {
		t.Errorf("P18.1: More(0, %x): %08x; want %08x", cut(b), got, want)
	}
}

// cut is as much of octets as can be read in a failure.
func cut(b []byte) []byte { return b[:min(len(b), 40)] }

func TestSumByHand(t *testing.T) {
	for _, c := range []struct {
		text string
		want uint32
	}{
		{"", 0},
		{"123456789", 0xcbf43926},
		{"a", 0xe8b7be43},
		{"abc", 0x352441c2},
		{"\x00", 0xd202ef8d},
		{"\x00\x00\x00\x00", 0x2144df1c},
		{"\xff", 0xff000000},
		{"\xff\xff\xff\xff", 0xffffffff},
		{strings.Repeat("\x00", 32), 0x190a55ad},
		{strings.Repeat("\xff", 32), 0xff6cab0b},
		{"The quick brown fox jumps over the lazy dog", 0x414fa339},
	} {
		wantSum(t, []byte(c.text), c.want)
	}
	wantSum(t, nil, 0)
}

func TestSumOfAllShortTexts(t *testing.T) {
	for a := range 256 {
		wantSum(t, []byte{byte(a)}, plain([]byte{byte(a)}))
		for b := range 256 {
			two := []byte{byte(a), byte(b)}
			wantSum(t, two, plain(two))
		}
	}
}

func TestSumOfLongTexts(t *testing.T) {
	d := dice(18)
	for n := range 600 {
		b := d.octets(n)
		wantSum(t, b, plain(b))
		wantSum(t, b, crc32.ChecksumIEEE(b))
	}
	for _, n := range []int{4095, 4096, 4097, 65535, 65536, 65537, 1 << 20} {
		b := d.octets(n)
		wantSum(t, b, plain(b))
		wantSum(t, make([]byte, n), plain(make([]byte, n)))
	}
}

func TestMoreByHand(t *testing.T) {
	for _, c := range []struct {
		sum  uint32
		text string
		want uint32
	}{
		{0, "", 0},
		{0xcbf43926, "", 0xcbf43926},
		{0xffffffff, "", 0xffffffff},
		{0, "123456789", 0xcbf43926},
		{0x9be3e0a3, "56789", 0xcbf43926}, // the sum of 1234
		{0xffffffff, "\x00", 0xffffffff},
		{0xffffffff, "\x00\x00\x00\x00\x00", 0xffffffff},
	} {
		if got := More(c.sum, []byte(c.text)); got != c.want {
			t.Errorf("P18.1: More(%08x, %q): %08x; want %08x", c.sum, c.text, got, c.want)
		}
		if got := More(c.sum, nil); got != c.sum {
			t.Errorf("P18.1: More(%08x, nil): %08x", c.sum, got)
		}
	}
}

func TestMoreGoesOn(t *testing.T) {
	d := dice(181)
	for n := range 80 {
		b := d.octets(n)
		want := plain(b)
		for i := range n + 1 {
			if got := More(Sum(b[:i]), b[i:]); got != want {
				t.Errorf("P18.1: the sum of %x, parted at %d: %08x; want %08x", b, i, got, want)
			}
		}
		s := uint32(0)
		for i := range b {
			s = More(s, b[i:i+1])
		}
		if s != want {
			t.Errorf("P18.1: the sum of %x, octet by octet: %08x; want %08x", b, s, want)
		}
	}
}

// whose answers four octets of which a sum is that: each sum is the sum of some.
func whose(sum uint32) []byte {
	s := ^sum
	for range 32 { // a bit that fell out as 1 shows in the topmost one
		if s>>31 == 1 {
			s = (s^0xedb88320)<<1 | 1
		} else {
			s <<= 1
		}
	}
	s ^= 0xffffffff
	return []byte{byte(s), byte(s >> 8), byte(s >> 16), byte(s >> 24)}
}

func TestMoreOfAnySum(t *testing.T) {
	d := dice(1818)
	sums := []uint32{0, 1, 2, 0x7fffffff, 0x80000000, 0x80000001, 0xfffffffe, 0xffffffff, 0xedb88320, 0x12477cdf}
	for range 500 {
		sums = append(sums, uint32(d.next()>>16))
	}
	for i, s := range sums {
		of := whose(s)
		if plain(of) != s {
			t.Fatalf("the test's own octets %x have the sum %08x, not %08x", of, plain(of), s)
		}
		b := d.octets(i % 23)
		if got, want := More(s, b), plain(slices.Concat(of, b)); got != want {
			t.Errorf("P18.1: More(%08x, %x): %08x; want %08x", s, b, got, want)
		}
	}
}

func TestWhatIsHandedIn(t *testing.T) {
	d := dice(3)
	room := d.octets(64)
	was := slices.Clone(room)
	for n := range 33 {
		b := room[:n]
		first, more := Sum(b), More(77, b)
		if !bytes.Equal(room, was) {
			t.Fatalf("rule 5: octets handed in (%d of them, or the room behind) were changed", n)
		}
		if Sum(b) != first || More(77, b) != more || Sum(slices.Clone(b)) != first {
			t.Errorf("rule 7: octets have another sum when asked again")
		}
	}
}

func TestCallsEnd(t *testing.T) {
	if n := testing.AllocsPerRun(10, func() { More(Sum([]byte("abc")), nil) }); n != 0 {
		t.Errorf("P18.1: a sum takes %v pieces of memory", n)
	}
	b := make([]byte, 1<<24)
	b[len(b)-1] = 1
	if got, want := Sum(b), crc32.ChecksumIEEE(b); got != want {
		t.Errorf("P18.1: the sum of 2^24 octets: %08x; want %08x", got, want)
	}
}

// turn turns the bits of a window of 32, the lowest bit of each octet first, as they go into the sum.
func turn(b []byte, at int, window uint32) []byte {
	c := slices.Clone(b)
	for i := range 32 {
		if window>>i&1 == 1 && at+i < 8*len(c) {
			c[(at+i)/8] ^= 1 << ((at + i) % 8)
		}
	}
	return c
}

// TestUnlikeByRank: what a turned bit adds to the sum is the same whatever else is turned (TestTurnedBitsAdd), so no two texts that differ within 32 bits have one sum just if no row of what those bits add comes to nothing.
func TestUnlikeByRank(t *testing.T) {
	d := dice(182)
	for _, n := range []int{4, 5, 8, 13, 64, 300} {
		b := d.octets(n)
		own := Sum(b)
		for at := 0; at+32 <= 8*n; at++ {
			var lead [32]uint32 // by topmost bit, what is left of one of them
			for i := range 32 {
				s := Sum(turn(b, at, 1<<i)) ^ own
				for s != 0 && lead[bits.Len32(s)-1] != 0 {
					s ^= lead[bits.Len32(s)-1]
				}
				if s == 0 {
					t.Fatalf("P18.2: of %d octets, some that differ within the 32 bits from %d on have one sum", n, at)
				}
				lead[bits.Len32(s)-1] = s
			}
		}
	}
}

func TestTurnedBitsAdd(t *testing.T) {
	d := dice(183)
	for range 2000 {
		n := 4 + int(d.next()>>40%20)
		b := d.octets(n)
		at := int(d.next() >> 40 % uint64(8*n-31))
		window := uint32(d.next() >> 20)
		want := Sum(b)
		for i := range 32 {
			if window>>i&1 == 1 {
				want ^= Sum(b) ^ Sum(turn(b, at, 1<<i))
			}
		}
		if got := Sum(turn(b, at, window)); got != want {
			t.Fatalf("P18.2: %x with the bits %08x turned from %d on: %08x; want %08x", b, window, at, got, want)
		}
	}
}

func TestUnlikeByHand(t *testing.T) {
	for _, c := range [][2]string{
		{"a", "b"},
		{"ab", "ba"},
		{"\x00", "\x80"},
		{"\x00\x00\x00\x00", "\xff\xff\xff\xff"},
		{"\x00\x00\x00\x00", "\x01\x00\x00\x80"},
		{"x\x80\x00\x00\x00y", "x\x00\xff\xff\x7fy"},
		{"undo", "redo"},
		{"octets, some", "octets, same"},
	} {
		if Sum([]byte(c[0])) == Sum([]byte(c[1])) {
			t.Errorf("P18.2: %q and %q have one sum", c[0], c[1])
		}
	}
}

// TestUnlikeWindows: all differences of at most 16 bits, and many of 32, at each place of a short text.
func TestUnlikeWindows(t *testing.T) {
	d := dice(184)
	b := d.octets(7)
	own := Sum(b)
	for at := range 8*len(b) - 31 {
		for w := uint32(1); w < 1<<16; w += 1 + uint32(at) {
			if Sum(turn(b, at, w)) == own {
				t.Fatalf("P18.2: %x has one sum with what differs by %08x from %d on", b, w, at)
			}
		}
		for range 2000 {
			w := uint32(d.next()>>20) | 1
			if Sum(turn(b, at, w)) == own {
				t.Fatalf("P18.2: %x has one sum with what differs by %08x from %d on", b, w, at)
			}
		}
	}
}
