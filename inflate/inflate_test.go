package inflate_test

import (
	"bytes"
	"math"
	"strings"
	"testing"

	"hamper/api"
	"hamper/inflate"
)

// P12.1: what is output, and how many octets are read.

func TestInflateByHand(t *testing.T) {
	for _, c := range []struct {
		s, want string
		used    int
	}{
		{"\x03\x00", "", 2},
		{"\x4b\x04\x00", "a", 3},
		{"\x4b\x4c\x84\x01\x00", "aaaaaaaaaa", 5},
		{"\x01\x00\x00\xff\xff", "", 5},
		{"\x01\x03\x00\xfc\xffabc", "abc", 8},
		// The bits up to the octet's end say nothing.
		{"\xf9\x03\x00\xfc\xffabc", "abc", 8},
		{"\x00\x01\x00\xfe\xffa\x01\x01\x00\xfe\xffb", "ab", 12},
	} {
		for _, behind := range []string{"", "\x00", "\xff\xff\xff", "\x07", c.s} {
			for _, most := range []int{len(c.want), len(c.want) + 1, 65536, math.MaxInt32, 1 << 32, math.MaxInt} {
				wantInflate(t, []byte(c.s+behind), most, []byte(c.want), c.used)
			}
		}
	}
}

// wantStream asks for the output of a stream, whatever follows it.
func wantStream(t *testing.T, s stream, want string) {
	t.Helper()
	b := s.bytes()
	for _, behind := range []string{"", "\x00", "\x07\x07\x07\x07"} {
		wantInflate(t, append(bytes.Clone(b), behind...), len(want), []byte(want), len(b))
	}
	for n := len(s); n < 8*len(b); n++ {
		b[n/8] |= 1 << (n % 8)
	}
	wantInflate(t, b, len(want), []byte(want), len(b))
}

func TestStored(t *testing.T) {
	c := chance(1)
	for _, n := range []int{0, 1, 2, 255, 256, 257, 32767, 32768, 65534, 65535} {
		b := string(c.octets(n))
		wantStream(t, stream("").stored(1, b), b)
		wantStream(t, stream("").stored(0, b).stored(0, "").stored(1, b), b+b)
	}
}

// A stored block begins at an octet's beginning, from wherever the block's head ends; if it ends there, nothing is skipped.
func TestStoredFromEachBit(t *testing.T) {
	for n := range 17 {
		tokens := append(lits(strings.Repeat("\xff", n)), stop())
		s := stream("").fixed(0, tokens...).stored(0, "ab").fixed(1, append(lits("c"), stop())...)
		wantStream(t, s, strings.Repeat("\xff", n)+"abc")
	}
	for n := range 8 {
		s := stream("")
		for range n {
			s = s.fixed(0, stop())
		}
		wantStream(t, s.stored(1, "xyz"), "xyz")
	}
}

func TestEachOctet(t *testing.T) {
	first := append(many(256, 9), 1)
	for c := range 256 {
		s := string([]byte{byte(c)})
		wantStream(t, stream("").fixed(1, append(lits(s), stop())...), s)
		wantStream(t, stream("").own(1, first, []int{0}, append(lits(s+s), stop())...), s+s)
	}
}

// Each length in each way in which it can be written, 258 in two of them.
func TestEachLength(t *testing.T) {
	lengths, extras, _, _ := basesOf()
	for i, least := range lengths {
		for v := range 1 << extras[i] {
			x := token{257 + i, num(v, extras[i]), 1, ""}
			want := strings.Repeat("ab", 200)[:2+least+v]
			wantStream(t, stream("").fixed(1, append(lits("ab"), x, stop())...), want)
		}
	}
}

// Each distance, of octets that are not all alike, in one stream.
func TestEachDistance(t *testing.T) {
	c := chance(2)
	out := c.octets(32768)
	s := stream("").stored(0, string(out)).head(1, 1)
	_, second := fixedOf()
	first, _ := fixedOf()
	l := make([]token, 0, 32769)
	for dist := 1; dist <= 32768; dist++ {
		size := 3 + c.next(8)
		l = append(l, back(size, dist))
		out = append(out, copied(out, size, dist)...)
	}
	wantStream(t, s.tokens(first, second, append(l, stop())...), string(out))
}

// The octets that a copy outputs may be copied by it.
func TestCopies(t *testing.T) {
	for dist := 1; dist <= 20; dist++ {
		for _, size := range []int{3, 4, 10, 11, 19, 20, 21, 57, 257, 258} {
			start := "abcdefghijklmnopqrstuvwxyz"
			want := start + string(copied([]byte(start), size, dist))
			wantStream(t, stream("").fixed(1, append(lits(start), back(size, dist), stop())...), want)
		}
	}
}

// A copy reaches the first octet, also behind other blocks of all kinds.
func TestCopiesOfOtherBlocks(t *testing.T) {
	first, second := append(many(255, 9), 9, 2, 3, 3), []int{2, 2, 2, 0, 2}
	s := stream("").stored(0, "ab")
	s = s.fixed(0, append(lits("cd"), back(4, 4), stop())...)
	wantStream(t, s.fixed(1, back(8, 8), stop()), "abcdabcdabcdabcd")
	s = s.own(0, first, second, token{257, "", 4, "1"}, sym('x'), stop()).stored(0, "yz")
	wantStream(t, s.fixed(1, back(14, 14), stop()), strings.Repeat("abcdabcdcdaxyz", 2))
	wantStream(t, stream("").stored(0, "abc").stored(0, "").fixed(1, back(3, 3), stop()), "abcabc")
}

// What was output within Inflate is nobody else's: neither the input nor another output.
func TestNewMemory(t *testing.T) {
	b := stream("").stored(1, "abc").bytes()
	one, _, _ := inflate.Inflate(b, 3)
	other, _, _ := inflate.Inflate(b, 3)
	b[5], one[1] = 'x', 'y'
	if string(one) != "ayc" || string(other) != "abc" || string(b[5:]) != "xbc" {
		t.Fatalf("%q, %q, %q", one, other, b[5:])
	}
}

// Nothing is kept from call to call, also behind an error.
func TestNothingIsKept(t *testing.T) {
	own := stream("").own(1, append(many(256, 9), 1), []int{0}, sym('b'), stop()).bytes()
	for range 3 {
		wantInflate(t, own, 1, []byte("b"), len(own))
		wantInflate(t, []byte("\x4b\x04\x00"), 1, []byte("a"), 3)
		wantNoInflate(t, []byte("\x4b\x04\x00"), 0, api.ErrBound)
		wantNoInflate(t, own[:len(own)-1], 1, api.ErrShort)
	}
}
