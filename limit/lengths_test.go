package limit_test

import (
	"slices"
	"testing"

	"hamper/api"
	"hamper/limit"
)

// P10.1: the lengths, and what is refused.

func TestLengthsByHand(t *testing.T) {
	for _, c := range []struct {
		counts []int
		m      int
		want   []int
	}{
		{[]int{5, 1, 1}, 15, []int{1, 2, 2}},
		{[]int{8, 4, 2, 1}, 2, []int{2, 2, 2, 2}},
		{[]int{0, 3}, 15, []int{0, 1}},
		{[]int{8, 4, 2, 1}, 15, []int{1, 2, 3, 3}},
		{[]int{8, 4, 2, 1}, 3, []int{1, 2, 3, 3}},
		{[]int{1, 8, 2, 4}, 3, []int{3, 1, 3, 2}},
		{[]int{0, 1, 0, 8, 2, 0, 4, 0}, 3, []int{0, 3, 0, 1, 3, 0, 2, 0}},
		// Without a bound 1 2 3 4 4: with it, the list is 1 1 2 (2) 4 (4) 8 (10) at last, and all of it is taken.
		{[]int{8, 4, 2, 1, 1}, 3, []int{1, 3, 3, 3, 3}},
		{[]int{8, 4, 2, 1, 1}, 4, []int{1, 2, 3, 4, 4}},
	} {
		wantLengths(t, c.counts, c.m, c.want...)
	}
}

// With three coins one is dropped in the first pairing, be it the only one that occurs so often or not.
func TestDroppedSingle(t *testing.T) {
	for m := 2; m <= 15; m++ {
		wantLengths(t, []int{1, 1, 1}, m, 2, 2, 1)
		wantLengths(t, []int{1, 1, 2}, m, 2, 2, 1)
		wantLengths(t, []int{2, 1, 1}, m, 1, 2, 2)
		wantLengths(t, []int{1, 2, 1}, m, 2, 1, 2)
		wantLengths(t, []int{2, 1, 2}, m, 2, 2, 1)
		wantLengths(t, []int{7, 9, 8}, m, 2, 1, 2)
	}
}

func TestEqualCounts(t *testing.T) {
	// Twice paired: a b c d e (ab) (cd) (e ab), of which eight are taken.
	wantLengths(t, []int{1, 1, 1, 1, 1}, 3, 3, 3, 2, 2, 2)
	wantLengths(t, many(5, 1), 15, 3, 3, 2, 2, 2)
	wantLengths(t, many(5, mostCount), 3, 3, 3, 2, 2, 2)
	wantLengths(t, []int{0, 4, 0, 4, 4, 4, 0, 4}, 4, 0, 3, 0, 3, 2, 2, 0, 2)
	wantLengths(t, many(6, 3), 3, 3, 3, 3, 3, 2, 2)
	wantLengths(t, many(7, 3), 3, 3, 3, 3, 3, 3, 3, 2)
	wantLengths(t, many(4, 3), 15, 2, 2, 2, 2)
	// a b c d (ab) (cd) ((ab)(cd)) is taken up to (cd): were packages first, the lengths would be 3 3 2 1.
	wantLengths(t, []int{1, 1, 2, 2}, 3, 2, 2, 2, 2)
	wantLengths(t, []int{2, 1, 2, 1}, 15, 2, 2, 2, 2)
	wantLengths(t, []int{2, 2, 1, 1}, 15, 2, 2, 2, 2)
	wantLengths(t, []int{1, 1, 1, 2}, 15, 2, 2, 2, 2)
	// b c (bc) a d ((bc) a) are taken of the list of three times.
	wantLengths(t, []int{3, 1, 1, 3}, 3, 2, 3, 3, 1)
}

func TestNoSymbolOrOne(t *testing.T) {
	for m := 1; m <= 15; m++ {
		wantLengths(t, nil, m)
		wantLengths(t, []int{}, m)
		for _, size := range []int{1, 2, 3, 319, 320} {
			wantLengths(t, many(size, 0), m, many(size, 0)...)
			for _, at := range []int{0, size / 2, size - 1} {
				for _, count := range []int{1, 2, mostCount} {
					counts, want := many(size, 0), many(size, 0)
					counts[at], want[at] = count, 1
					wantLengths(t, counts, m, want...)
				}
			}
		}
	}
}

func TestTwoSymbols(t *testing.T) {
	for m := 1; m <= 15; m++ {
		for _, a := range []int{1, 2, 1000, mostCount} {
			for _, b := range []int{1, 3, mostCount - 1, mostCount} {
				wantLengths(t, []int{a, b}, m, 1, 1)
				wantLengths(t, []int{0, a, 0, 0, b, 0}, m, 0, 1, 0, 0, 1, 0)
			}
		}
	}
	counts, want := many(320, 0), many(320, 0)
	counts[0], counts[319], want[0], want[319] = 5, 1, 1, 1
	wantLengths(t, counts, 1, want...)
}

// Where 2^m counts are above 0, all codes are as long as they may be; with one count more there are too many.
func TestAsManyAsFit(t *testing.T) {
	for m := 1; m <= 8; m++ {
		n := 1 << m
		for _, counts := range [][]int{many(n, 1), many(n, mostCount), doubles(31)[:min(n, 31)]} {
			counts = append(counts, many(n-len(counts), 1)...)
			wantLengths(t, counts, m, many(n, m)...)
			wantLengths(t, backward(counts), m, many(n, m)...)
			wantNoLengths(t, append(slices.Clone(counts), 1), m, api.ErrOver)
			wantNoLengths(t, append([]int{mostCount}, counts...), m, api.ErrOver)
			wide := append(many(320-n, 0), counts...)
			wantLengths(t, wide, m, append(many(320-n, 0), many(n, m)...)...)
			wide[0] = 1
			wantNoLengths(t, wide, m, api.ErrOver)
		}
	}
	wantLengths(t, many(320, 1), 9, append(many(128, 9), many(192, 8)...)...)
	wantNoLengths(t, many(320, 1), 8, api.ErrOver)
	wantNoLengths(t, many(320, mostCount), 1, api.ErrOver)
	wantNoLengths(t, []int{1, 1, 1}, 1, api.ErrOver)
}

// For every number of symbols there are enough elements, with every bound that they fit in.
func TestEveryNumberOfSymbols(t *testing.T) {
	for n := 0; n <= 320; n++ {
		for m := 1; m <= 15; m++ {
			if n > 20 && (n+m)%5 > 0 {
				continue
			}
			wantModel(t, many(n, 1), m)
			wantModel(t, append(doubles(31), fibonacci(45)...)[:min(n, 76)], m)
		}
	}
}

func TestBoundedLengths(t *testing.T) {
	for _, counts := range [][]int{fibonacci(16), fibonacci(17), fibonacci(20), fibonacci(45), doubles(16), doubles(17), doubles(31), append(doubles(31), 1)} {
		for m := 1; m <= 15; m++ {
			wantModel(t, counts, m)
			wantModel(t, backward(counts), m)
		}
	}
	// 16 coins of these need 15 bits; from 17 on the bound holds back the longest.
	wantLengths(t, doubles(16), 15, 15, 15, 14, 13, 12, 11, 10, 9, 8, 7, 6, 5, 4, 3, 2, 1)
	if l := lengths(t, doubles(17), 15); slices.Max(l) != 15 || l[16] != 1 {
		t.Fatalf("Lengths(%v, 15): %v", doubles(17), l)
	}
}

func TestSmallListsBesideModel(t *testing.T) {
	for n := 0; n <= 4; n++ {
		lists(n, []int{0, 1, 2, 3, 5}, func(counts []int) {
			for _, m := range []int{1, 2, 3, 4, 15} {
				wantModel(t, counts, m)
			}
		})
	}
	for n := 5; n <= 8; n++ {
		lists(n, []int{1, 2, 4}, func(counts []int) {
			wantModel(t, counts, 3)
			wantModel(t, counts, 4)
		})
	}
	lists(3, []int{0, 1, mostCount, mostCount - 1}, func(counts []int) {
		wantModel(t, counts, 1)
		wantModel(t, counts, 2)
	})
}

func TestListsBesideModel(t *testing.T) {
	c := chance(10)
	for range 1500 {
		wantModel(t, c.counts(20), 1+c.next(15))
	}
	for range 250 {
		wantModel(t, c.counts(320), 6+c.next(10))
	}
}

func TestBadCounts(t *testing.T) {
	for _, bad := range badCounts() {
		wantNoLengths(t, []int{bad}, 15, api.ErrArg)
		wantNoLengths(t, []int{bad, 1}, 1, api.ErrArg)
		wantNoLengths(t, []int{1, bad}, 1, api.ErrArg)
		wantNoLengths(t, []int{3, 1, bad, 0, 2}, 15, api.ErrArg)
		wantNoLengths(t, append(many(319, 1), bad), 15, api.ErrArg)
		wantNoLengths(t, append(many(319, 0), bad), 15, api.ErrArg)
	}
	for _, size := range []int{321, 322, 640, 65536} {
		wantNoLengths(t, many(size, 0), 15, api.ErrArg)
		wantNoLengths(t, many(size, 1), 15, api.ErrArg)
		wantNoLengths(t, append(many(size-1, 0), 1), 1, api.ErrArg)
	}
}

func TestBadBound(t *testing.T) {
	for _, m := range append(badLengths(), 0) {
		wantNoLengths(t, nil, m, api.ErrArg)
		wantNoLengths(t, []int{0, 0}, m, api.ErrArg)
		wantNoLengths(t, []int{0, 3}, m, api.ErrArg)
		wantNoLengths(t, []int{5, 1, 1}, m, api.ErrArg)
		wantNoLengths(t, many(320, 1), m, api.ErrArg)
	}
}

// What is no argument is told before there are too many.
func TestOrderOfErrors(t *testing.T) {
	wantNoLengths(t, []int{1, 1, 1, -1}, 1, api.ErrArg)
	wantNoLengths(t, []int{mostCount + 1, 1, 1, 1}, 1, api.ErrArg)
	wantNoLengths(t, append(many(319, 1), -1), 8, api.ErrArg)
	wantNoLengths(t, many(321, 1), 8, api.ErrArg)
	wantNoLengths(t, []int{1, 1, 1}, 0, api.ErrArg)
	wantNoLengths(t, []int{1, 1, 1}, -1, api.ErrArg)
	wantNoLengths(t, []int{-1, 1, 1}, 0, api.ErrArg)
	wantNoLengths(t, many(320, mostCount), 8, api.ErrOver)
}

func TestLengthsAreNew(t *testing.T) {
	counts := []int{5, 1, 1, 0}
	a := lengths(t, counts, 15)
	b := lengths(t, counts, 15)
	a[0], a[3] = 9, 9
	wantSame(t, counts, []int{5, 1, 1, 0})
	wantSame(t, b, []int{1, 2, 2, 0})
	counts[0], counts[3] = 0, 1
	wantSame(t, b, []int{1, 2, 2, 0})
	wantLengths(t, []int{5, 1, 1, 0}, 15, 1, 2, 2, 0)
	for _, l := range [][]int{{0, 0}, {0, 3}, {2, 3}} {
		was := slices.Clone(l)
		got := lengths(t, l, 15)
		got[0] = 7
		wantSame(t, l, was)
	}
}

// What is behind the counts in the caller's memory is none of them, and stays.
func TestPieceOfCounts(t *testing.T) {
	all := []int{-1, 5, 1, 1, -1, 7, 7, 7, 7}
	wantLengths(t, all[1:4], 15, 1, 2, 2)
	got, e := limit.Lengths(all[1:4], 15)
	got = append(got, 9, 9)
	if e != api.OK || !slices.Equal(got, []int{1, 2, 2, 9, 9}) {
		t.Fatalf("Lengths of a piece: %v, %d", got, e)
	}
	wantSame(t, all, []int{-1, 5, 1, 1, -1, 7, 7, 7, 7})
}
