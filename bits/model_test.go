package bits_test

import (
	"bytes"
	"math"
	"testing"

	"hamper/api"
	"hamper/bits"
)

const (
	mostBits = 32   // bits of a number, at most
	secret   = 0xa5 // an octet that must not come through
)

// stream is bits, each 0 or 1, told by the chapter's words.
type stream []byte

// octets is the stream in the bit order, filled with zeros up to an octet's end.
func (s stream) octets() []byte {
	out := make([]byte, (len(s)+7)/8)
	for i, b := range s {
		for range i % 8 {
			b *= 2
		}
		out[i/8] += b
	}
	return out
}

// streamOf is all bits of octets.
func streamOf(octets []byte) stream {
	var s stream
	for _, b := range octets {
		for range 8 {
			s = append(s, b%2)
			b /= 2
		}
	}
	return s
}

// low is the stream of a number of n bits, its lowest bit first.
func low(v uint64, n int) stream {
	s := make(stream, n)
	for i := range s {
		s[i] = byte(v % 2)
		v /= 2
	}
	return s
}

// high is the stream of a number of n bits, its highest bit first.
func high(v uint64, n int) stream {
	s := low(v, n)
	for i, j := 0, n-1; i < j; i, j = i+1, j-1 {
		s[i], s[j] = s[j], s[i]
	}
	return s
}

// number is the number whose lowest bit is the stream's first one.
func (s stream) number() uint64 {
	v := uint64(0)
	for i := len(s) - 1; i >= 0; i-- {
		v = 2*v + uint64(s[i])
	}
	return v
}

// aligned is the stream with zeros up to the next octet boundary.
func (s stream) aligned() stream {
	out := append(stream(nil), s...)
	for len(out)%8 != 0 {
		out = append(out, 0)
	}
	return out
}

// then is the stream and another one behind it, in new memory.
func (s stream) then(t stream) stream { return append(append(stream(nil), s...), t...) }

// greatest is the greatest number of n bits.
func greatest(n int) uint64 {
	v := uint64(0)
	for range n {
		v = 2*v + 1
	}
	return v
}

// numbersOf are numbers of n bits: the edges, and some that read otherwise from either end.
func numbersOf(n int) []uint64 {
	most := greatest(n)
	out := []uint64{0, most, most / 2, most - most/2, most / 3, most / 5, most / 7, 0x12345678 & most, 0xb5a1c3e7 & most}
	if n > 0 {
		out = append(out, 1)
	}
	return out
}

// overOf are numbers that don't fit into n bits.
func overOf(n int) []uint64 {
	most := greatest(n)
	return []uint64{most + 1, most + 2, 2 * (most + 1), 2*(most+1) + 1, 1 << 32, 1 << 33, 1<<32 + most, 1 << 63, 1<<63 + most, math.MaxUint64}
}

// badCounts are no numbers of bits.
func badCounts() []int {
	return []int{-1, 33, -2, -8, -32, -33, 34, 40, 63, 64, 65, 96, 128, 255, 256, 257, 288, 1 << 32, 1<<32 + 1, 1 << 61, 1<<61 + 1, math.MaxInt - 1, math.MaxInt, math.MinInt, math.MinInt + 1, math.MinInt + 32}
}

// chance is numbers that look like no rule, the same in each run.
type chance uint64

func (c *chance) next(n int) int {
	*c = *c*6364136223846793005 + 1442695040888963407
	return int(uint64(*c) >> 33 % uint64(n))
}

func (c *chance) number(n int) uint64 {
	return (uint64(c.next(1<<16))<<16 + uint64(c.next(1<<16))) & greatest(n)
}

func (c *chance) octets(n int) []byte {
	b := make([]byte, n)
	for i := range b {
		b[i] = byte(c.next(256))
	}
	return b
}

// wantBits asks whether a writer has these bits.
func wantBits(t *testing.T, w *bits.Writer, s stream) {
	t.Helper()
	if got := w.Bytes(); !bytes.Equal(got, s.octets()) || w.Count() != len(s) {
		t.Fatalf("Bytes %v, Count %d; want %v, %d", got, w.Count(), s.octets(), len(s))
	}
}

// wantAt asks whether a reader is at a bit of so many.
func wantAt(t *testing.T, r *bits.Reader, at, all int) {
	t.Helper()
	if r.At() != at || r.Left() != all-at {
		t.Fatalf("At %d, Left %d; want %d, %d", r.At(), r.Left(), at, all-at)
	}
}

// wantTake asks whether the next n bits are this number, and read.
func wantTake(t *testing.T, r *bits.Reader, n int, want uint64) {
	t.Helper()
	at, left := r.At(), r.Left()
	if v, e := r.Take(n); v != want || e != api.OK {
		t.Fatalf("Take(%d) at %d: %#x, %d; want %#x", n, at, v, e, want)
	}
	wantAt(t, r, at+n, at+left)
}

// wantNoTake asks whether Take is refused, and nothing is read.
func wantNoTake(t *testing.T, r *bits.Reader, n int, want api.Errno) {
	t.Helper()
	at, left := r.At(), r.Left()
	if v, e := r.Take(n); v != 0 || e != want {
		t.Fatalf("Take(%d) at %d of %d: %#x, %d; want error %d", n, at, at+left, v, e, want)
	}
	wantAt(t, r, at, at+left)
}

// wantOctets asks whether the next n octets from the boundary on are these, and read.
func wantOctets(t *testing.T, r *bits.Reader, n int, want []byte) {
	t.Helper()
	at, all := r.At(), r.At()+r.Left()
	if b, e := r.Octets(n); !bytes.Equal(b, want) || e != api.OK {
		t.Fatalf("Octets(%d) at %d: %v, %d; want %v", n, at, b, e, want)
	}
	wantAt(t, r, boundary(at)+8*n, all)
}

// wantNoOctets asks whether Octets is refused, and the reader is aligned and no further.
func wantNoOctets(t *testing.T, r *bits.Reader, n int, want api.Errno) {
	t.Helper()
	at, all := r.At(), r.At()+r.Left()
	if b, e := r.Octets(n); len(b) != 0 || e != want {
		t.Fatalf("Octets(%d) at %d of %d: %v, %d; want error %d", n, at, all, b, e, want)
	}
	wantAt(t, r, boundary(at), all)
}

// boundary is the octet boundary at a bit or next behind it.
func boundary(at int) int {
	for at%8 != 0 {
		at++
	}
	return at
}
