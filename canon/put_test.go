package canon_test

import (
	"math"
	"slices"
	"strings"
	"testing"

	"hamper/api"
	"hamper/bits"
	"hamper/canon"
)

// P9.3: Put.

// wantNoPut asks whether Put is refused, and nothing is written, at every bit of an octet.
func wantNoPut(t *testing.T, codes []api.Code, symbol int, want api.Errno) {
	t.Helper()
	was := slices.Clone(codes)
	for before := range 9 {
		s := strings.Repeat("1", before)
		w := bits.New()
		w.Put(1<<before-1, before)
		if e := canon.Put(w, codes, symbol); e != want {
			t.Fatalf("Put of %d: %d; want %d", symbol, e, want)
		}
		wantBits(t, w, s)
		w.Put(1, 1)
		wantBits(t, w, s+"1")
	}
	if !slices.Equal(codes, was) {
		t.Fatalf("Put has changed the codes")
	}
}

// wantPut asks whether Put writes the code's bits, the highest first, at every bit of an octet.
func wantPut(t *testing.T, codes []api.Code, symbol int, want code) {
	t.Helper()
	was := slices.Clone(codes)
	for before := range 9 {
		w := bits.New()
		w.Put(1<<before-1, before)
		if e := canon.Put(w, codes, symbol); e != api.OK {
			t.Fatalf("Put of %d, %v: %d", symbol, codes[symbol], e)
		}
		wantBits(t, w, strings.Repeat("1", before)+string(want))
	}
	if !slices.Equal(codes, was) {
		t.Fatalf("Put has changed the codes")
	}
}

func TestPutByHand(t *testing.T) {
	c := codes(t, []int{2, 1, 3, 3})
	for symbol, want := range []code{"10", "0", "110", "111"} {
		wantPut(t, c, symbol, want)
	}
	w := bits.New()
	for _, symbol := range []int{3, 0, 1, 2} {
		canon.Put(w, c, symbol)
	}
	wantBits(t, w, "111"+"10"+"0"+"110")
}

func TestPutOfNoSuchSymbol(t *testing.T) {
	one := []api.Code{{Bits: 0, Len: 1}}
	none := []api.Code{{}, {Bits: 5, Len: 99}}
	for _, c := range [][]api.Code{nil, {}, one, none, codes(t, stairs(15)), codes(t, widest())} {
		for _, symbol := range []int{-1, len(c), len(c) + 1, -2, -320, 1 << 16, 1 << 32, 1<<32 - 1, -1 << 32, math.MaxInt, math.MinInt, math.MinInt + 1} {
			wantNoPut(t, c, symbol, api.ErrRange)
		}
	}
	// Codes behind a piece's end are none.
	wantNoPut(t, []api.Code{{Bits: 1, Len: 1}, {Bits: 1, Len: 2}}[:1], 1, api.ErrRange)
}

func TestPutOfFirstAndLastSymbol(t *testing.T) {
	c := codes(t, widest())
	wantPut(t, c, 0, "00000000")
	wantPut(t, c, 191, "10111111")
	wantPut(t, c, 192, "110000000")
	wantPut(t, c, 319, "111111111")
}

func TestPutOfNoCode(t *testing.T) {
	c := codes(t, []int{0, 1, 0, 2, 0})
	for _, symbol := range []int{0, 2, 4} {
		wantNoPut(t, c, symbol, api.ErrCode)
	}
	wantPut(t, c, 1, "0")
	wantPut(t, c, 3, "10")
	wantNoPut(t, codes(t, many(mostSymbols, 0)), 319, api.ErrCode)
}

// A code that has no length or no bits is not one that is not there: only both together are.
func TestPutOfBadCode(t *testing.T) {
	bad := []api.Code{
		{Bits: 1, Len: 0}, {Bits: 2, Len: 0}, {Bits: 1 << 63, Len: 0}, {Bits: math.MaxUint64, Len: 0},
	}
	for _, n := range badLengths() {
		bad = append(bad, api.Code{Bits: 0, Len: n}, api.Code{Bits: 1, Len: n}, api.Code{Bits: math.MaxUint64, Len: n})
	}
	for n := 1; n <= mostLen; n++ {
		for _, v := range []uint64{1 << n, 1<<n + 1, 1<<(n+1) - 1, 1 << 15, 1 << 16, 1 << 31, 1 << 32, 1<<32 + 1, 1 << 63, 1<<63 + 1, math.MaxUint64, math.MaxUint64 - 1} {
			bad = append(bad, api.Code{Bits: v, Len: n})
		}
	}
	for _, c := range bad {
		wantNoPut(t, []api.Code{c}, 0, api.ErrOver)
		wantNoPut(t, []api.Code{{}, c, {Bits: 1, Len: 1}}, 1, api.ErrOver)
	}
}

// What is wrong with the codes of other symbols plays no part, nor that codes begin with each other, nor how many there are.
func TestPutOfAnyCodes(t *testing.T) {
	c := []api.Code{{Bits: 0, Len: 1}, {Bits: 9, Len: 1}, {Bits: 0, Len: 2}, {Bits: 0, Len: -3}, {Bits: 0, Len: 15}, {Bits: 1, Len: 1}, {}, {Bits: 1, Len: 15}, {Bits: 1<<15 - 1, Len: 15}, {Bits: 1 << 14, Len: 15}, {Bits: 0b0101_1001, Len: 8}}
	wantPut(t, c, 0, "0")
	wantPut(t, c, 2, "00")
	wantPut(t, c, 4, "000000000000000")
	wantPut(t, c, 5, "1")
	wantPut(t, c, 7, "000000000000001")
	wantPut(t, c, 8, "111111111111111")
	wantPut(t, c, 9, "100000000000000")
	wantPut(t, c, 10, "01011001")
	long := make([]api.Code, 1000)
	long[320], long[999] = api.Code{Bits: 2, Len: 3}, api.Code{Bits: 6, Len: 3}
	wantPut(t, long, 320, "010")
	wantPut(t, long, 999, "110")
	wantNoPut(t, long, 998, api.ErrCode)
	wantNoPut(t, long, 1000, api.ErrRange)
}

// Every number that fits into a code, of each length.
func TestPutOfAllBits(t *testing.T) {
	for n := 1; n <= mostLen; n++ {
		w, want := bits.New(), strings.Builder{}
		c := code(strings.Repeat("0", n))
		for v := range uint64(1) << n {
			if e := canon.Put(w, []api.Code{{Bits: v, Len: n}}, 0); e != api.OK {
				t.Fatalf("Put of %d in %d bits: %d", v, n, e)
			}
			want.WriteString(string(c))
			if v < 1<<n-1 {
				c = c.next()
			}
		}
		wantBits(t, w, want.String())
	}
}

// Codes that are changed behind a call change nothing of what was written.
func TestPutKeepsNothingOfTheCaller(t *testing.T) {
	c := codes(t, []int{2, 1, 3, 3})
	w := bits.New()
	canon.Put(w, c, 2)
	c[2] = api.Code{Bits: 1, Len: 1}
	wantBits(t, w, "110")
	canon.Put(w, c, 2)
	wantBits(t, w, "1101")
}
