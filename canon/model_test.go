package canon_test

import (
	"math"
	"math/big"
	"slices"
	"strings"
	"testing"

	"hamper/api"
	"hamper/bits"
	"hamper/canon"
)

const (
	mostLen     = 15  // bits of a code, at most
	mostSymbols = 320 // of a list, at most
)

// code is a code's bits, a letter 0 or 1 each, the highest first; empty, it is none.
type code string

// number is the number of a code's bits.
func (c code) number() uint64 {
	v := uint64(0)
	for _, b := range c {
		v = 2*v + uint64(b-'0')
	}
	return v
}

// next is the code behind c: the highest 0 that only ones follow is a 1, and these are zeros.
func (c code) next() code {
	i := strings.LastIndexByte(string(c), '0')
	return c[:i] + "1" + code(strings.Repeat("0", len(c)-i-1))
}

// share is how much of all bits begins with the codes of valid lengths: the sum of 2^-length.
func share(l []int) *big.Rat {
	sum := new(big.Rat)
	for _, n := range l {
		if n > 0 {
			sum.Add(sum, big.NewRat(1, 1<<n))
		}
	}
	return sum
}

// checked is what Check has to answer, by the chapter's words.
func checked(l []int) api.Errno {
	if len(l) > mostSymbols || slices.ContainsFunc(l, func(n int) bool { return n < 0 || n > mostLen }) {
		return api.ErrArg
	}
	switch share(l).Cmp(big.NewRat(1, 1)) {
	case 1:
		return api.ErrOver
	case -1:
		return api.ErrShort
	}
	return api.OK
}

// opened is what New has to answer.
func opened(l []int) api.Errno {
	e := checked(l)
	if e == api.ErrShort && decodable(l) {
		return api.OK
	}
	return e
}

// decodable: are incomplete lengths so?
func decodable(l []int) bool {
	var above []int
	for _, n := range l {
		if n > 0 {
			above = append(above, n)
		}
	}
	return len(above) == 0 || len(above) == 1 && above[0] == 1
}

// codesOf is the codes of lengths that are not oversubscribed, by the chapter's words.
func codesOf(l []int) []code {
	out := make([]code, len(l))
	var last code
	for n := 1; n <= mostLen; n++ {
		for symbol := range l {
			if l[symbol] != n {
				continue
			}
			if last == "" {
				last = code(strings.Repeat("0", n))
			} else {
				next := last.next()
				last = next + code(strings.Repeat("0", n-len(next)))
			}
			out[symbol] = last
		}
	}
	return out
}

// toCodes is codes as numbers.
func toCodes(l []code) []api.Code {
	out := make([]api.Code, len(l))
	for i, c := range l {
		out[i] = api.Code{Bits: c.number(), Len: len(c)}
	}
	return out
}

// bitsOf is all bits of octets, a letter each, in the bit order.
func bitsOf(b []byte) string {
	var out strings.Builder
	for _, o := range b {
		for range 8 {
			out.WriteByte('0' + o%2)
			o /= 2
		}
	}
	return out.String()
}

// octetsOf is the octets of bits, with zeros up to an octet's end.
func octetsOf(s string) []byte {
	out := make([]byte, (len(s)+7)/8)
	for i, b := range s {
		out[i/8] |= byte(b-'0') << (i % 8)
	}
	return out
}

// book is which symbol a code stands for.
type book map[code]int

func bookOf(l []code) book {
	b := book{}
	for symbol, c := range l {
		if c != "" {
			b[c] = symbol
		}
	}
	return b
}

// take is what Take has to answer on bits, and how many of them it reads.
func (b book) take(s string) (int, api.Errno, int) {
	if len(b) == 0 {
		return 0, api.ErrCode, 0
	}
	for n := 1; n <= len(s); n++ {
		if symbol, ok := b[code(s[:n])]; ok {
			return symbol, api.OK, n
		}
		if n == mostLen || len(b) == 1 {
			return 0, api.ErrCode, n
		}
	}
	return 0, api.ErrShort, len(s)
}

// badLengths are no lengths of a code.
func badLengths() []int {
	return []int{-1, 16, -2, -15, -16, 17, 30, 31, 32, 63, 64, 65, 255, 256, 257, 271, 320, -1 << 8, -1<<8 + 1, 1 << 16, 1<<16 + 1, 1 << 32, 1<<32 + 1, -1 << 32, -1<<32 + 1, 1 << 62, 1<<62 + 1, math.MaxInt, math.MaxInt - 1, math.MinInt, math.MinInt + 1, math.MinInt + 15}
}

// many is n elements that are all the same.
func many(n, element int) []int { return slices.Repeat([]int{element}, n) }

// stairs is the lengths 1 to n and n again, which are complete.
func stairs(n int) []int {
	var l []int
	for i := 1; i <= n; i++ {
		l = append(l, i)
	}
	return append(l, n)
}

// widest is complete lengths of MaxSymbols symbols, all of them with codes.
func widest() []int { return append(many(192, 8), many(128, 9)...) }

// lists calls f with all lists of n of the lengths.
func lists(n int, lengths []int, f func([]int)) {
	l := make([]int, n)
	var fill func(int)
	fill = func(i int) {
		if i == n {
			f(l)
			return
		}
		for _, l[i] = range lengths {
			fill(i + 1)
		}
	}
	fill(0)
}

// smallLists calls f with all lists of few elements.
func smallLists(f func([]int)) {
	for n := 0; n <= 5; n++ {
		lists(n, []int{0, 1, 2, 3, 4}, f)
	}
	lists(8, []int{0, 2, 3}, f)
	lists(4, []int{0, 1, 14, 15, 7}, f)
}

// chance is numbers that look like no rule, the same in each run.
type chance uint64

func (c *chance) next(n int) int {
	*c = *c*6364136223846793005 + 1442695040888963407
	return int(uint64(*c) >> 33 % uint64(n))
}

func (c *chance) octets(n int) []byte {
	b := make([]byte, n)
	for i := range b {
		b[i] = byte(c.next(256))
	}
	return b
}

// complete is complete lengths of so many codes, 2 at least, no longer than most bits.
func (c *chance) complete(codes, most int) []int {
	l := []int{1, 1}
	for len(l) < codes {
		if i := c.next(len(l)); l[i] < most {
			l[i]++
			l = append(l, l[i])
		}
	}
	return l
}

// mixed is the lengths and zeros, size of them in all, in an order that looks like none.
func (c *chance) mixed(l []int, size int) []int {
	out := append(slices.Clone(l), make([]int, size-len(l))...)
	for i := range out {
		j := i + c.next(len(out)-i)
		out[i], out[j] = out[j], out[i]
	}
	return out
}

// decodable is complete lengths of any kind.
func (c *chance) decodable() []int {
	size := 2 + c.next(mostSymbols-1)
	most := 9 + c.next(mostLen-8)
	return c.mixed(c.complete(2+c.next(size-1), most), size)
}

// wantCheck asks what Check, New and Codes say of lengths, beside the model, and whether the codes are right.
func wantCheck(t *testing.T, l []int) {
	t.Helper()
	was := slices.Clone(l)
	if e := canon.Check(l); e != checked(l) {
		t.Fatalf("Check(%v): %d; want %d", l, e, checked(l))
	}
	d, e := canon.New(l)
	if e != opened(l) || (d != nil) != (e == api.OK) {
		t.Fatalf("New(%v): %v, %d; want %d", l, d, e, opened(l))
	}
	wantCodes(t, l)
	if !slices.Equal(l, was) {
		t.Fatalf("the lengths %v have become %v", was, l)
	}
}

// wantCodes asks for the codes of lengths, or the error that there is.
func wantCodes(t *testing.T, l []int) {
	t.Helper()
	codes, e := canon.Codes(l)
	switch want := checked(l); want {
	case api.ErrArg, api.ErrOver:
		if e != want || codes != nil {
			t.Fatalf("Codes(%v): %v, %d; want error %d", l, codes, e, want)
		}
	default:
		if c := toCodes(codesOf(l)); e != api.OK || !slices.Equal(codes, c) {
			t.Fatalf("Codes(%v): %v, %d; want %v", l, codes, e, c)
		}
	}
}

// decoder is the decoder of lengths that have one.
func decoder(t *testing.T, l []int) *canon.Decoder {
	t.Helper()
	d, e := canon.New(l)
	if e != api.OK || d == nil {
		t.Fatalf("New(%v): %v, %d", l, d, e)
	}
	return d
}

// codes is the codes of lengths that have them.
func codes(t *testing.T, l []int) []api.Code {
	t.Helper()
	c, e := canon.Codes(l)
	if e != api.OK {
		t.Fatalf("Codes(%v): %d", l, e)
	}
	return c
}

// readerAt is a reader of octets that has read so many bits.
func readerAt(t *testing.T, b []byte, at int) *bits.Reader {
	t.Helper()
	r := bits.Read(b)
	for range at {
		if _, e := r.Take(1); e != api.OK {
			t.Fatalf("Take of a bit: %d", e)
		}
	}
	return r
}

// readerOf is a reader of which just these bits are left.
func readerOf(t *testing.T, s string) *bits.Reader {
	t.Helper()
	before := (8 - len(s)%8) % 8
	return readerAt(t, octetsOf(strings.Repeat("1", before)+s), before)
}

// wantTake asks what Take answers, and how many bits it reads.
func wantTake(t *testing.T, d *canon.Decoder, r *bits.Reader, symbol int, want api.Errno, read int) {
	t.Helper()
	at, left := r.At(), r.Left()
	got, e := d.Take(r)
	if got != symbol || e != want {
		t.Fatalf("Take at %d of %d: %d, %d; want %d, %d", at, at+left, got, e, symbol, want)
	}
	if r.At() != at+read || r.Left() != left-read {
		t.Fatalf("Take at %d of %d: At %d, Left %d; want %d bits read", at, at+left, r.At(), r.Left(), read)
	}
}

// wantBits asks whether a writer has these bits.
func wantBits(t *testing.T, w *bits.Writer, s string) {
	t.Helper()
	if got := w.Bytes(); !slices.Equal(got, octetsOf(s)) || w.Count() != len(s) {
		t.Fatalf("written: %d bits, %s; want %d, %s", w.Count(), bitsOf(got), len(s), s)
	}
}
