package canon_test

import (
	"slices"
	"testing"

	"hamper/api"
	"hamper/canon"
)

// P9.1: Check and Codes; P9.2: New.

func TestCheckByHand(t *testing.T) {
	for _, c := range []struct {
		name   string
		l      []int
		check  api.Errno
		opened api.Errno
	}{
		{"no elements", nil, api.ErrShort, api.OK},
		{"empty", []int{}, api.ErrShort, api.OK},
		{"a zero", []int{0}, api.ErrShort, api.OK},
		{"zeros", many(mostSymbols, 0), api.ErrShort, api.OK},
		{"one too many", many(mostSymbols+1, 0), api.ErrArg, api.ErrArg},
		{"a bit alone", []int{1}, api.ErrShort, api.OK},
		{"a bit alone behind a zero", []int{0, 1}, api.ErrShort, api.OK},
		{"a bit alone ahead of a zero", []int{1, 0}, api.ErrShort, api.OK},
		{"a bit alone at the end", append(many(mostSymbols-1, 0), 1), api.ErrShort, api.OK},
		{"a bit alone, one too many", append(many(mostSymbols, 0), 1), api.ErrArg, api.ErrArg},
		{"two bits alone", []int{2}, api.ErrShort, api.ErrShort},
		{"two bits alone, behind a zero", []int{0, 2}, api.ErrShort, api.ErrShort},
		{"MaxLen bits alone", []int{0, 15, 0}, api.ErrShort, api.ErrShort},
		{"two codes of a bit", []int{1, 1}, api.OK, api.OK},
		{"two codes of a bit among zeros", []int{0, 1, 0, 0, 1, 0}, api.OK, api.OK},
		{"three codes of a bit", []int{1, 1, 1}, api.ErrOver, api.ErrOver},
		{"a bit, and two bits", []int{1, 2}, api.ErrShort, api.ErrShort},
		{"two codes of two bits", []int{2, 2}, api.ErrShort, api.ErrShort},
		{"three codes of two bits", []int{2, 2, 2}, api.ErrShort, api.ErrShort},
		{"four codes of two bits", []int{2, 2, 2, 2}, api.OK, api.OK},
		{"five codes of two bits", []int{2, 2, 2, 2, 2}, api.ErrOver, api.ErrOver},
		{"the example", []int{2, 1, 3, 3}, api.OK, api.OK},
		{"the example with one code too little", []int{2, 1, 3, 0}, api.ErrShort, api.ErrShort},
		{"the example with one code too long", []int{2, 1, 3, 4}, api.ErrShort, api.ErrShort},
		{"the example with one code too short", []int{2, 1, 3, 2}, api.ErrOver, api.ErrOver},
		{"stairs", stairs(15), api.OK, api.OK},
		{"incomplete by the least", stairs(15)[:15], api.ErrShort, api.ErrShort},
		{"oversubscribed by the least", append(stairs(15), 15), api.ErrOver, api.ErrOver},
		{"all symbols", widest(), api.OK, api.OK},
		{"all symbols, and one more", append(widest(), 0), api.ErrArg, api.ErrArg},
		{"all symbols, incomplete", append(widest()[:319], 10), api.ErrShort, api.ErrShort},
		{"all symbols, oversubscribed", append(widest()[:319], 8), api.ErrOver, api.ErrOver},
		{"all symbols of a bit", many(mostSymbols, 1), api.ErrOver, api.ErrOver},
		{"all symbols of MaxLen bits", many(mostSymbols, 15), api.ErrShort, api.ErrShort},
		{"all symbols of nine bits", many(mostSymbols, 9), api.ErrShort, api.ErrShort},
		{"256 of eight bits", append(many(64, 0), many(256, 8)...), api.OK, api.OK},
		{"257 of eight bits", append(many(63, 0), many(257, 8)...), api.ErrOver, api.ErrOver},
		{"a length of -1", []int{-1}, api.ErrArg, api.ErrArg},
		{"a length of MaxLen + 1", []int{16}, api.ErrArg, api.ErrArg},
		{"a length of -1 beside complete ones", []int{1, -1, 1}, api.ErrArg, api.ErrArg},
		{"a length of MaxLen + 1 beside complete ones", []int{1, 1, 16}, api.ErrArg, api.ErrArg},
		{"not valid ahead of oversubscribed", []int{1, 1, 1, 16}, api.ErrArg, api.ErrArg},
		{"too many ahead of oversubscribed", many(mostSymbols+1, 1), api.ErrArg, api.ErrArg},
		{"too many by far", many(100000, 1), api.ErrArg, api.ErrArg},
		{"complete, and too many", append(stairs(15), many(305, 0)...), api.ErrArg, api.ErrArg},
		{"complete, and just enough", append(stairs(15), many(304, 0)...), api.OK, api.OK},
	} {
		if e := canon.Check(c.l); e != c.check {
			t.Errorf("Check, %s: %d; want %d", c.name, e, c.check)
		}
		if d, e := canon.New(c.l); e != c.opened || (d == nil) != (e != api.OK) {
			t.Errorf("New, %s: %v, %d; want %d", c.name, d, e, c.opened)
		}
		wantCodes(t, c.l)
	}
}

func TestCodesByHand(t *testing.T) {
	for _, c := range []struct {
		l    []int
		want []code
	}{
		{nil, nil},
		{[]int{0, 0}, []code{"", ""}},
		{[]int{1}, []code{"0"}},
		{[]int{0, 1, 0}, []code{"", "0", ""}},
		{[]int{4}, []code{"0000"}},
		{[]int{15}, []code{"000000000000000"}},
		{[]int{1, 1}, []code{"0", "1"}},
		{[]int{1, 0, 1}, []code{"0", "", "1"}},
		{[]int{2, 1, 3, 3}, []code{"10", "0", "110", "111"}},
		{[]int{3, 3, 1, 2}, []code{"110", "111", "0", "10"}},
		{[]int{2, 2}, []code{"00", "01"}},
		{[]int{3, 1}, []code{"100", "0"}},
		{[]int{5, 2, 2}, []code{"10000", "00", "01"}},
		{[]int{3, 3, 5}, []code{"000", "001", "01000"}},
		{[]int{15, 1}, []code{"100000000000000", "0"}},
		{[]int{3, 3, 3, 3, 3, 2, 4, 4}, []code{"010", "011", "100", "101", "110", "00", "1110", "1111"}},
	} {
		got, e := canon.Codes(c.l)
		if e != api.OK || !slices.Equal(got, toCodes(c.want)) {
			t.Errorf("Codes(%v): %v, %d; want %v", c.l, got, e, c.want)
		}
	}
}

// The last code of complete lengths is all ones.
func TestLongestCodes(t *testing.T) {
	c := codes(t, stairs(15))
	for n := 1; n <= 15; n++ {
		if want := (api.Code{Bits: 1<<n - 2, Len: n}); c[n-1] != want {
			t.Errorf("code %d of stairs: %v; want %v", n, c[n-1], want)
		}
	}
	if want := (api.Code{Bits: 1<<15 - 1, Len: 15}); c[15] != want {
		t.Errorf("the last code of stairs: %v; want %v", c[15], want)
	}
	c = codes(t, widest())
	if c[0] != (api.Code{Len: 8}) || c[191] != (api.Code{Bits: 191, Len: 8}) || c[192] != (api.Code{Bits: 384, Len: 9}) || c[319] != (api.Code{Bits: 511, Len: 9}) {
		t.Errorf("codes of all symbols: %v, %v, %v, %v", c[0], c[191], c[192], c[319])
	}
}

func TestSmallLists(t *testing.T) {
	smallLists(func(l []int) { wantCheck(t, l) })
}

// Of each number of codes of the same length: incomplete, complete, oversubscribed.
func TestEqualLengths(t *testing.T) {
	for n := 0; n <= mostLen; n++ {
		for size := 0; size <= mostSymbols+1; size++ {
			if size < 5 || size > 317 || size&(size-1) == 0 || size&(size+1) == 0 || (size-1)&(size-2) == 0 {
				wantCheck(t, many(size, n))
			}
		}
	}
}

// Complete lengths of all kinds; the same with one code less, one more, and one that is shorter or longer.
func TestListsBesideModel(t *testing.T) {
	c := chance(9)
	for range 300 {
		l := c.decodable()
		wantCheck(t, l)
		if e := canon.Check(l); e != api.OK {
			t.Fatalf("Check(%v): %d", l, e)
		}
		i := c.next(len(l))
		for _, n := range []int{0, 1, mostLen, max(l[i]-1, 0), min(l[i]+1, mostLen), -1, 16} {
			other := slices.Clone(l)
			other[i] = n
			wantCheck(t, other)
		}
		wantCheck(t, append(slices.Clone(l), 15))
	}
}

// Lists of any lengths, most of them incomplete or oversubscribed.
func TestAnyListsBesideModel(t *testing.T) {
	c := chance(10)
	for range 2000 {
		l := make([]int, c.next(mostSymbols+3))
		least := c.next(mostLen + 1)
		for i := range l {
			l[i] = least + c.next(mostLen+1-least)
		}
		wantCheck(t, l)
	}
}

// A length that is none, at each place, in lists that would have another error or none: the error of it is named first.
func TestBadLengths(t *testing.T) {
	for _, n := range badLengths() {
		for _, l := range [][]int{{0}, {1}, {0, 0, 0}, {1, 1, 0}, {1, 1, 1, 1}, {2, 2}, stairs(15), widest()} {
			for _, i := range []int{0, len(l) / 2, len(l) - 1} {
				bad := slices.Clone(l)
				bad[i] = n
				wantCheck(t, bad)
				if e := canon.Check(bad); e != api.ErrArg {
					t.Fatalf("Check of a length of %d: %d", n, e)
				}
			}
		}
	}
}

// What is handed out is new, and what is handed in is not kept.
func TestCodesAreNew(t *testing.T) {
	l := []int{2, 1, 3, 3}
	first, second := codes(t, l), codes(t, l)
	all := first[:cap(first)]
	for i := range all {
		all[i] = api.Code{Bits: 7, Len: 9}
	}
	want := toCodes([]code{"10", "0", "110", "111"})
	if !slices.Equal(second, want) || !slices.Equal(codes(t, l), want) {
		t.Errorf("writing into codes changes others: %v", second)
	}
	l[0], l[1], l[2], l[3] = 1, 1, 0, 0
	if !slices.Equal(second, want) {
		t.Errorf("writing into lengths changes codes: %v", second)
	}
}

// Lengths behind a piece's end play no part, and stay.
func TestPieceOfLengths(t *testing.T) {
	whole := []int{1, 1, 1, 99}
	for n := range 3 {
		wantCheck(t, whole[:n])
	}
	if !slices.Equal(whole, []int{1, 1, 1, 99}) {
		t.Errorf("the lengths have changed: %v", whole)
	}
}
