package limit_test

import (
	"cmp"
	"math"
	"slices"
	"testing"

	"hamper/api"
	"hamper/limit"
)

const (
	mostLen     = 15        // bits of a code, at most
	mostSymbols = 320       // of a list, at most
	mostCount   = 1<<31 - 1 // of a symbol
)

// lot is an element of the list: its count, and the symbols of its coins, each as often as it holds that coin.
type lot struct {
	count   int
	symbols []int
}

// ascending puts lots in the order of their counts; those with equal counts stay as they are.
func ascending(l []lot) []lot {
	slices.SortStableFunc(l, func(a, b lot) int { return cmp.Compare(a.count, b.count) })
	return l
}

// coinsOf is the coins of counts.
func coinsOf(counts []int) []lot {
	var coins []lot
	for symbol, n := range counts {
		if n > 0 {
			coins = append(coins, lot{n, []int{symbol}})
		}
	}
	return ascending(coins)
}

// paired is the packages of a list.
func paired(list []lot) []lot {
	var out []lot
	for len(list) >= 2 {
		a, b := list[0], list[1]
		out = append(out, lot{a.count + b.count, slices.Concat(a.symbols, b.symbols)})
		list = list[2:]
	}
	return out
}

// finalList is the list after all times, by the chapter's words.
func finalList(counts []int, m int) []lot {
	coins := coinsOf(counts)
	list := coins
	for range m - 1 {
		list = ascending(slices.Concat(coins, paired(list)))
	}
	return list
}

// lengthsOf is what Lengths has to answer, by the chapter's words.
func lengthsOf(counts []int, m int) ([]int, api.Errno) {
	coins := len(coinsOf(counts))
	switch {
	case len(counts) > mostSymbols || slices.ContainsFunc(counts, func(n int) bool { return n < 0 || n > mostCount }):
		return nil, api.ErrArg
	case m < 1 || m > mostLen:
		return nil, api.ErrArg
	case float64(coins) > math.Pow(2, float64(m)):
		return nil, api.ErrOver
	}
	out := make([]int, len(counts))
	switch coins {
	case 0:
	case 1:
		out[coinsOf(counts)[0].symbols[0]] = 1
	default:
		for _, x := range finalList(counts, m)[:2*coins-2] {
			for _, symbol := range x.symbols {
				out[symbol]++
			}
		}
	}
	return out, api.OK
}

// product is the sum of count times length.
func product(counts, lengths []int) int {
	sum := 0
	for i := range counts {
		sum += counts[i] * lengths[i]
	}
	return sum
}

// share is how much of all MaxLen bits begins with the codes of lengths: 2^15, if these are complete.
func share(lengths []int) int {
	sum := 0
	for _, n := range lengths {
		if n > 0 {
			sum += 1 << (mostLen - n)
		}
	}
	return sum
}

// cheapest is the least cost of lengths that are not oversubscribed, none of them above m, none 0 for a symbol that occurs.
func cheapest(counts []int, m int) int {
	// best is the least cost of the symbols so far, if they may use so many numbers of m bits.
	best := make([]int, 1<<m+1)
	for _, count := range counts {
		if count == 0 {
			continue
		}
		next := slices.Repeat([]int{math.MaxInt}, len(best))
		for n := 1; n <= m; n++ {
			used := 1 << (m - n)
			for room := used; room < len(best); room++ {
				if before := best[room-used]; before < math.MaxInt {
					next[room] = min(next[room], before+count*n)
				}
			}
		}
		best = next
	}
	return best[1<<m]
}

// badCounts are no counts.
func badCounts() []int {
	return []int{-1, mostCount + 1, -2, -mostCount, -mostCount - 1, mostCount + 2, 1 << 32, 1<<32 + 1, -1 << 32, -1<<32 + 1, 1<<33 - 1, 1 << 62, math.MaxInt, math.MaxInt - 1, math.MinInt, math.MinInt + 1}
}

// badLengths are no lengths of a code, and no bounds of them.
func badLengths() []int {
	return []int{-1, mostLen + 1, -2, -15, -16, 17, 30, 31, 32, 63, 64, 65, 255, 256, 257, 271, 320, 1 << 16, 1<<16 + 1, 1 << 32, 1<<32 + 1, -1 << 32, -1<<32 + 1, 1 << 62, 1<<62 + 1, math.MaxInt, math.MaxInt - 1, math.MinInt, math.MinInt + 1, math.MinInt + 15}
}

// many is n elements that are all the same.
func many(n, element int) []int { return slices.Repeat([]int{element}, n) }

// fibonacci is n counts, each the sum of the two before it.
func fibonacci(n int) []int {
	l := []int{1, 1}
	for len(l) < n {
		l = append(l, l[len(l)-1]+l[len(l)-2])
	}
	return l[:n]
}

// doubles is the counts 1, 2, 4 up to 2^(n-1).
func doubles(n int) []int {
	var l []int
	for i := range n {
		l = append(l, 1<<i)
	}
	return l
}

// backward is a list from its end.
func backward(l []int) []int {
	l = slices.Clone(l)
	slices.Reverse(l)
	return l
}

// lists calls f with all lists of n of the elements.
func lists(n int, elements []int, f func([]int)) {
	l := make([]int, n)
	var fill func(int)
	fill = func(i int) {
		if i == n {
			f(l)
			return
		}
		for _, l[i] = range elements {
			fill(i + 1)
		}
	}
	fill(0)
}

// chance is numbers that look like no rule, the same in each run.
type chance uint64

func (c *chance) next(n int) int {
	*c = *c*6364136223846793005 + 1442695040888963407
	return int(uint64(*c) >> 33 % uint64(n))
}

// counts is a list of counts of any kind, of which size elements at most are above 0.
func (c *chance) counts(size int) []int {
	l := make([]int, c.next(size+1))
	kind := c.next(6)
	for i := range l {
		switch kind {
		case 0: // many equal ones, and many of 0
			l[i] = c.next(3)
		case 1:
			l[i] = 1 + c.next(9)
		case 2: // codes that would be longer than they may be
			l[i] = 1 << c.next(31)
		case 3:
			l[i] = c.next(mostCount) + 1
		case 4:
			l[i] = mostCount - c.next(3)
		default:
			l[i] = c.next(2) * (1 + c.next(1<<c.next(31)))
		}
	}
	return l
}

// wantLengths asks for lengths.
func wantLengths(t *testing.T, counts []int, m int, want ...int) {
	t.Helper()
	was := slices.Clone(counts)
	got, e := limit.Lengths(counts, m)
	if e != api.OK || !slices.Equal(got, want) {
		t.Fatalf("Lengths(%v, %d): %v, %d; want %v", counts, m, got, e, want)
	}
	wantSame(t, counts, was)
}

// wantNoLengths asks for an error.
func wantNoLengths(t *testing.T, counts []int, m int, want api.Errno) {
	t.Helper()
	was := slices.Clone(counts)
	if got, e := limit.Lengths(counts, m); e != want || got != nil {
		t.Fatalf("Lengths(%v, %d): %v, %d; want error %d", counts, m, got, e, want)
	}
	wantSame(t, counts, was)
}

// wantModel asks what Lengths says, beside the model.
func wantModel(t *testing.T, counts []int, m int) {
	t.Helper()
	want, e := lengthsOf(counts, m)
	if e != api.OK {
		wantNoLengths(t, counts, m, e)
		return
	}
	wantLengths(t, counts, m, want...)
}

// wantSame asks whether an argument is as it was.
func wantSame(t *testing.T, l, was []int) {
	t.Helper()
	if !slices.Equal(l, was) {
		t.Fatalf("the argument %v has become %v", was, l)
	}
}

// lengths is the lengths of counts that have them.
func lengths(t *testing.T, counts []int, m int) []int {
	t.Helper()
	l, e := limit.Lengths(counts, m)
	if e != api.OK {
		t.Fatalf("Lengths(%v, %d): %d", counts, m, e)
	}
	return l
}

// cost is the cost of lengths that have one.
func cost(t *testing.T, counts, lengths []int) int {
	t.Helper()
	n, e := limit.Cost(counts, lengths)
	if e != api.OK {
		t.Fatalf("Cost(%v, %v): %d", counts, lengths, e)
	}
	return n
}
