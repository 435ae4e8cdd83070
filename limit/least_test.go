package limit_test

import (
	"slices"
	"testing"
)

// P10.3: complete lengths that are the cheapest.

// wantGood asks whether lengths are complete, none above m, and 0 just where a symbol does not occur.
func wantGood(t *testing.T, counts []int, m int) []int {
	t.Helper()
	l := lengths(t, counts, m)
	if share(l) != 1<<mostLen {
		t.Fatalf("Lengths(%v, %d): %v, not complete", counts, m, l)
	}
	for symbol, n := range l {
		if n < 0 || n > m || (n == 0) != (counts[symbol] == 0) {
			t.Fatalf("Lengths(%v, %d): %v, wrong at %d", counts, m, l, symbol)
		}
	}
	return l
}

// wantCheapest asks whether lengths are good, and no others cheaper.
func wantCheapest(t *testing.T, counts []int, m int) {
	t.Helper()
	l := wantGood(t, counts, m)
	if got, want := cost(t, counts, l), cheapest(counts, m); got != want {
		t.Fatalf("Lengths(%v, %d): %v, cost %d; want %d", counts, m, l, got, want)
	}
}

// occurring is how many symbols occur.
func occurring(counts []int) int {
	return len(counts) - len(slices.DeleteFunc(slices.Clone(counts), func(n int) bool { return n > 0 }))
}

// fits: have counts complete lengths of at most m bits?
func fits(counts []int, m int) bool {
	n := occurring(counts)
	return n >= 2 && n <= 1<<m
}

// allowed: are other lengths not oversubscribed, and none of them 0 for a symbol that occurs?
func allowed(counts, l []int) bool {
	for symbol, n := range l {
		if n == 0 && counts[symbol] > 0 {
			return false
		}
	}
	return share(l) <= 1<<mostLen
}

// TestNoneOfAllIsCheaper holds the lengths of small lists against all others that are allowed.
func TestNoneOfAllIsCheaper(t *testing.T) {
	counts := []int{0, 1, 2, 3, 4, 7}
	for n := 2; n <= 4; n++ {
		for m := 1; m <= 4; m++ {
			var all [][]int
			lists(n, []int{0, 1, 2, 3, 4}[:m+1], func(l []int) {
				if share(l) <= 1<<mostLen {
					all = append(all, slices.Clone(l))
				}
			})
			lists(n, counts, func(counts []int) {
				if fits(counts, m) {
					wantNoneCheaper(t, counts, m, all)
				}
			})
		}
	}
}

// wantNoneCheaper asks whether none of the lengths that are allowed is cheaper.
func wantNoneCheaper(t *testing.T, counts []int, m int, all [][]int) {
	t.Helper()
	got := cost(t, counts, wantGood(t, counts, m))
	for _, l := range all {
		if allowed(counts, l) && cost(t, counts, l) < got {
			t.Fatalf("Lengths(%v, %d) cost %d, but %v cost %d", counts, m, got, l, cost(t, counts, l))
		}
	}
}

func TestCheapestOfSmallLists(t *testing.T) {
	for n := 5; n <= 8; n++ {
		lists(n, []int{1, 3, 8}, func(counts []int) {
			wantCheapest(t, counts, 3)
			wantCheapest(t, counts, 4)
		})
	}
	lists(5, []int{0, 1, 2, 9}, func(counts []int) {
		for m := 1; m <= 5; m++ {
			if fits(counts, m) {
				wantCheapest(t, counts, m)
			}
		}
	})
}

func TestCheapestWhereBound(t *testing.T) {
	for m := 3; m <= 12; m++ {
		for _, n := range []int{5, 8, 16, 20, 31} {
			if n > 1<<m {
				continue
			}
			wantCheapest(t, fibonacci(n), m)
			wantCheapest(t, doubles(n), m)
			wantCheapest(t, backward(doubles(n)), m)
			wantCheapest(t, append(doubles(n-2), 0, mostCount, 0, 1), m)
		}
	}
	wantCheapest(t, doubles(16), 15)
	wantCheapest(t, doubles(31), 15)
	wantCheapest(t, fibonacci(45), 15)
}

func TestCheapestOfLists(t *testing.T) {
	c := chance(30)
	for range 1500 {
		counts, m := c.counts(40), 2+c.next(7)
		if fits(counts, m) {
			wantCheapest(t, counts, m)
		}
	}
	for range 100 {
		counts, m := c.counts(320), 7+c.next(4)
		if fits(counts, m) {
			wantCheapest(t, counts, m)
		}
	}
}

func TestGoodLists(t *testing.T) {
	c := chance(40)
	for range 1500 {
		counts, m := c.counts(320), 1+c.next(15)
		if fits(counts, m) {
			wantGood(t, counts, m)
		}
	}
	for n := 2; n <= 320; n++ {
		for m := 1; m <= 15; m++ {
			if n <= 1<<m {
				wantGood(t, many(n, 1), m)
				wantGood(t, append(many(n-1, 1), mostCount), m)
			}
		}
	}
}
