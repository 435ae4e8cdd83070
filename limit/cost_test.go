package limit_test

import (
	"slices"
	"testing"

	"hamper/api"
	"hamper/limit"
)

// P10.2: the cost, and what is refused.

// wantCost asks for a cost.
func wantCost(t *testing.T, counts, lengths []int, want int) {
	t.Helper()
	wasCounts, wasLengths := slices.Clone(counts), slices.Clone(lengths)
	if got := cost(t, counts, lengths); got != want {
		t.Fatalf("Cost(%v, %v): %d; want %d", counts, lengths, got, want)
	}
	wantSame(t, counts, wasCounts)
	wantSame(t, lengths, wasLengths)
}

// wantNoCost asks for ErrArg.
func wantNoCost(t *testing.T, counts, lengths []int) {
	t.Helper()
	wasCounts, wasLengths := slices.Clone(counts), slices.Clone(lengths)
	if got, e := limit.Cost(counts, lengths); got != 0 || e != api.ErrArg {
		t.Fatalf("Cost(%v, %v): %d, %d; want error %d", counts, lengths, got, e, api.ErrArg)
	}
	wantSame(t, counts, wasCounts)
	wantSame(t, lengths, wasLengths)
}

func TestCostByHand(t *testing.T) {
	wantCost(t, []int{5, 1, 1}, []int{1, 2, 2}, 9)
	wantCost(t, []int{8, 4, 2, 1}, []int{1, 2, 3, 3}, 25)
	wantCost(t, []int{8, 4, 2, 1}, []int{2, 2, 2, 2}, 30)
	wantCost(t, []int{0, 3}, []int{0, 1}, 3)
	wantCost(t, []int{0, 3}, []int{7, 1}, 3)
	wantCost(t, []int{7}, []int{15}, 105)
	wantCost(t, []int{2, 3}, []int{15, 14}, 72)
}

// A cost asks neither whether the lengths are those of a code, nor whether each symbol that occurs has one.
func TestCostOfAnyLengths(t *testing.T) {
	wantCost(t, nil, nil, 0)
	wantCost(t, []int{}, nil, 0)
	wantCost(t, nil, []int{}, 0)
	wantCost(t, []int{5, 1, 1}, []int{0, 0, 0}, 0)
	wantCost(t, []int{5, 1, 1}, []int{0, 2, 0}, 2)
	wantCost(t, []int{5, 1, 1}, []int{1, 1, 1}, 7)
	wantCost(t, []int{5, 1, 1}, []int{15, 15, 15}, 105)
	wantCost(t, []int{0, 0}, []int{15, 15}, 0)
	wantCost(t, many(320, 1), many(320, 1), 320)
	wantCost(t, many(320, 0), many(320, 15), 0)
	wantCost(t, many(320, mostCount), many(320, 0), 0)
}

// The greatest costs need more than 32 bits.
func TestGreatCost(t *testing.T) {
	wantCost(t, []int{mostCount}, []int{1}, 2147483647)
	wantCost(t, []int{mostCount}, []int{2}, 4294967294)
	wantCost(t, []int{mostCount}, []int{15}, 32212254705)
	wantCost(t, []int{mostCount, mostCount, 1}, []int{1, 1, 2}, 4294967296)
	wantCost(t, many(320, mostCount), many(320, 15), 10307921505600)
}

func TestCostBesideProduct(t *testing.T) {
	c := chance(20)
	for range 3000 {
		counts := c.counts(320)
		l := make([]int, len(counts))
		for i := range l {
			l[i] = c.next(16)
		}
		wantCost(t, counts, l, product(counts, l))
	}
}

func TestCostOfBadCounts(t *testing.T) {
	for _, bad := range badCounts() {
		for _, n := range []int{0, 1, 15} {
			wantNoCost(t, []int{bad}, []int{n})
			wantNoCost(t, []int{1, bad}, []int{1, n})
			wantNoCost(t, []int{bad, 1, 1}, []int{n, 1, 1})
			wantNoCost(t, append(many(319, 1), bad), many(320, n))
		}
	}
	wantNoCost(t, many(321, 1), many(321, 1))
	wantNoCost(t, many(321, 0), many(321, 0))
	wantNoCost(t, many(65536, 0), many(65536, 0))
}

func TestCostOfBadLengths(t *testing.T) {
	for _, bad := range badLengths() {
		for _, count := range []int{0, 1, mostCount} {
			wantNoCost(t, []int{count}, []int{bad})
			wantNoCost(t, []int{1, count}, []int{1, bad})
			wantNoCost(t, []int{count, 1, 1}, []int{bad, 2, 2})
			wantNoCost(t, many(320, count), append(many(319, 1), bad))
		}
	}
}

func TestNotAsManyLengths(t *testing.T) {
	for _, n := range []int{0, 1, 2, 3, 319, 320} {
		for _, more := range []int{1, 2, 320} {
			wantNoCost(t, many(n, 1), many(n+more, 1))
			wantNoCost(t, many(n, 0), many(n+more, 0))
			if n >= more {
				wantNoCost(t, many(n, 1), many(n-more, 1))
				wantNoCost(t, many(n, 0), many(n-more, 0))
			}
		}
	}
	wantNoCost(t, many(321, 1), many(320, 1))
	wantNoCost(t, many(320, 1), many(321, 1))
	// What is behind the lengths in the caller's memory is none of them.
	wantNoCost(t, []int{5, 1, 1}, []int{1, 2, 2, 2}[:2])
}

func TestCostOfPieces(t *testing.T) {
	counts, l := []int{-1, 5, 1, 1, -1}, []int{16, 1, 2, 2, 16}
	wantCost(t, counts[1:4], l[1:4], 9)
	wantCost(t, l[1:4], l[1:4], 9)
	wantSame(t, counts, []int{-1, 5, 1, 1, -1})
	wantSame(t, l, []int{16, 1, 2, 2, 16})
}
