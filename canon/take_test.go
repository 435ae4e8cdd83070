package canon_test

import (
	"strings"
	"testing"

	"hamper/api"
	"hamper/bits"
	"hamper/canon"
)

// P9.2: Take.

func TestTakeByHand(t *testing.T) {
	d := decoder(t, []int{2, 1, 3, 3})
	r := readerOf(t, "1110"+"10"+"110"+"0"+"11")
	for _, c := range []struct {
		symbol, read int
	}{{3, 3}, {1, 1}, {0, 2}, {2, 3}, {1, 1}} {
		wantTake(t, d, r, c.symbol, api.OK, c.read)
	}
	wantTake(t, d, r, 0, api.ErrShort, 2)
	wantTake(t, d, r, 0, api.ErrShort, 0)
}

// Two codes of a bit: each bit is a symbol, and only where there is none they end.
func TestTakeOfTwoCodesOfABit(t *testing.T) {
	d := decoder(t, []int{0, 1, 0, 1})
	r := bits.Read([]byte{0b0110_1001})
	for _, symbol := range []int{3, 1, 1, 3, 1, 3, 3, 1} {
		wantTake(t, d, r, symbol, api.OK, 1)
	}
	wantTake(t, d, r, 0, api.ErrShort, 0)
}

// One code alone: the bit 0 is it, the bit 1 is read and is none, and reading goes on behind it.
func TestTakeOfOneCode(t *testing.T) {
	for _, symbol := range []int{0, 1, 7, 318, 319} {
		for _, behind := range []int{0, 319 - symbol} {
			l := append(append(many(symbol, 0), 1), many(behind, 0)...)
			d := decoder(t, l)
			r := bits.Read([]byte{0b1101_1010})
			for _, bit := range "01011011" {
				if bit == '0' {
					wantTake(t, d, r, symbol, api.OK, 1)
				} else {
					wantTake(t, d, r, 0, api.ErrCode, 1)
				}
			}
			wantTake(t, d, r, 0, api.ErrShort, 0)
			wantTake(t, d, bits.Read(nil), 0, api.ErrShort, 0)
		}
	}
}

// No codes: nothing is read, whether there are bits or not.
func TestTakeOfNoCodes(t *testing.T) {
	for _, l := range [][]int{nil, {}, {0}, {0, 0, 0}, many(mostSymbols, 0)} {
		d := decoder(t, l)
		for at := 0; at <= 24; at++ {
			r := readerAt(t, []byte{0, 255, 0xa5}, at)
			wantTake(t, d, r, 0, api.ErrCode, 0)
			wantTake(t, d, r, 0, api.ErrCode, 0)
		}
		wantTake(t, d, bits.Read(nil), 0, api.ErrCode, 0)
	}
}

// Each code just whole, with bits behind it, and ended within it, at its first and at its last bit.
func TestTakeOfEachCode(t *testing.T) {
	for _, l := range [][]int{{1}, {0, 1}, {1, 1}, {2, 1, 3, 3}, {0, 2, 0, 2, 2, 2}, {3, 3, 3, 3, 3, 2, 4, 4}, stairs(2), stairs(7), stairs(8), stairs(14), stairs(15), widest()} {
		d := decoder(t, l)
		for symbol, c := range codesOf(l) {
			if c == "" {
				continue
			}
			s := string(c)
			wantTake(t, d, readerOf(t, s), symbol, api.OK, len(s))
			for _, behind := range []string{"0", "1", "01101", "1111111111", "000000000000000000"} {
				wantTake(t, d, readerOf(t, s+behind), symbol, api.OK, len(s))
			}
			for n := range len(s) {
				wantTake(t, d, readerOf(t, s[:n]), 0, api.ErrShort, n)
			}
		}
	}
}

// All bits of MaxLen are codes of complete lengths, and what is behind a code is not read.
func TestTakeOfAllBits(t *testing.T) {
	c := chance(11)
	ls := [][]int{stairs(15), stairs(14), c.mixed(stairs(15), mostSymbols), c.mixed(c.complete(mostSymbols, mostLen), mostSymbols), {0, 1}}
	for _, l := range ls {
		d, b := decoder(t, l), bookOf(codesOf(l))
		for v := range 1 << 15 {
			octets := []byte{byte(v), byte(v >> 8)}
			symbol, e, read := b.take(bitsOf(octets))
			wantTake(t, d, bits.Read(octets), symbol, e, read)
		}
	}
}

// All octets from every bit on, symbol by symbol up to the end, with the decoders of all small lists.
func TestTakeOfSmallLists(t *testing.T) {
	c := chance(12)
	smallLists(func(l []int) {
		if opened(l) != api.OK {
			return
		}
		d, b := decoder(t, l), bookOf(codesOf(l))
		for at := range 16 {
			octets := c.octets(2)
			wantTakes(t, d, b, octets, at)
		}
	})
}

func TestTakeBesideModel(t *testing.T) {
	c := chance(13)
	for range 300 {
		l := c.decodable()
		d, b := decoder(t, l), bookOf(codesOf(l))
		for range 10 {
			octets := c.octets(1 + c.next(40))
			wantTakes(t, d, b, octets, c.next(8*len(octets)+1))
		}
	}
}

// wantTakes asks for all symbols of octets from a bit on, and for the error that comes at last.
func wantTakes(t *testing.T, d *canon.Decoder, b book, octets []byte, at int) {
	t.Helper()
	s, r := bitsOf(octets), readerAt(t, octets, at)
	for {
		symbol, e, read := b.take(s[at:])
		wantTake(t, d, r, symbol, e, read)
		at += read
		if e == api.ErrShort || read == 0 {
			return
		}
	}
}

// A decoder keeps nothing of the lengths that it was made of, and nothing from call to call.
func TestDecoderKeepsNothingOfTheCaller(t *testing.T) {
	l := []int{2, 1, 3, 3}
	d := decoder(t, l)
	l[0], l[1], l[2], l[3] = 1, 1, 16, -1
	r, s := readerOf(t, "111"+"0"+"10"), readerOf(t, "11")
	wantTake(t, d, s, 0, api.ErrShort, 2)
	wantTake(t, d, r, 3, api.OK, 3)
	wantTake(t, d, readerOf(t, "110"), 2, api.OK, 3)
	wantTake(t, d, r, 1, api.OK, 1)
	wantTake(t, d, r, 0, api.OK, 2)
}

func TestDecodersAreApart(t *testing.T) {
	one, other := decoder(t, []int{1, 2, 2}), decoder(t, []int{2, 2, 1})
	r := readerOf(t, strings.Repeat("10", 4)+"0")
	for range 2 {
		wantTake(t, one, r, 1, api.OK, 2)
		wantTake(t, other, r, 0, api.OK, 2)
	}
	wantTake(t, other, r, 2, api.OK, 1)
}
