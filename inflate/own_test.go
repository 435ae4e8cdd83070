package inflate_test

import (
	"slices"
	"strings"
	"testing"

	"hamper/api"
)

// P12.1: codes that are transmitted.

// someFirst is the first code that most tests here use: a, b, the end, and the lengths 3 and 4.
func someFirst() []int {
	l := many(259, 0)
	l['a'], l['b'], l[256], l[257], l[258] = 2, 2, 2, 3, 3
	return l
}

// sparse is a plan of these lengths and of a second code with two symbols, written with runs.
func sparse() plan {
	l := []step{zeros(97), {2, ""}, {2, ""}, zeros(138), zeros(19), {2, ""}, {3, ""}, {3, ""}, {1, ""}, {1, ""}}
	return plan{259, 2, 18, thirdOf(18, 1, 2, 3), l}
}

func TestOwnCodes(t *testing.T) {
	second := []int{1, 1}
	l := append(lits("ab"), back(3, 2), back(4, 1), stop())
	wantStream(t, stream("").own(1, someFirst(), second, l...), "ababaaaaa")
	wantStream(t, stream("").codes(1, sparse()).tokens(someFirst(), second, l...), "ababaaaaa")
	wantStream(t, stream("").codes(0, sparse()).tokens(someFirst(), second, l...).fixed(1, stop()), "ababaaaaa")
}

// Codes are those of their block alone.
func TestOwnCodesOfEachBlock(t *testing.T) {
	first, second := many(259, 0), []int{0, 0, 0, 1}
	first['b'], first[256], first[258] = 1, 2, 2
	s := stream("").own(0, someFirst(), []int{1, 1}, append(lits("ab"), back(3, 2), stop())...)
	s = s.own(0, first, second, sym('b'), back(4, 4), stop())
	s = s.fixed(0, sym('c'), back(3, 3), stop())
	wantStream(t, s.own(1, someFirst(), []int{1, 1}, sym('a'), back(3, 1), stop()), "ababa"+"b"+"abab"+"c"+"abc"+"aaaa")
}

// One code alone has one bit, which is 0.
func TestOneCode(t *testing.T) {
	wantStream(t, stream("").own(1, onlyStop(), []int{0}, stop()), "")
	wantStream(t, stream("").own(1, someFirst(), []int{1}, sym('a'), back(3, 1), stop()), "aaaa")
	for _, l := range []stream{stream("").codes(1, planOf(onlyStop(), []int{0})), stream("").codes(1, planOf(someFirst(), []int{1})).tokens(someFirst(), []int{0, 0, 0, 1}, sym('a'), sym(257))} {
		wantNoEnding(t, l+"1", api.ErrCode)
		wantNoEnding(t, l, api.ErrShort)
	}
}

// Each number of lengths of each code.
func TestHowManyLengths(t *testing.T) {
	for n := 257; n <= 286; n++ {
		first := many(n, 0)
		first['x'], first['y'], first[256] = 1, 2, 2
		wantStream(t, stream("").own(1, first, []int{0}, append(lits("xyx"), stop())...), "xyx")
		if n > 257 {
			first['y'], first[n-1] = 0, 2
			wantStream(t, stream("").own(1, first, []int{0}, append(lits("xx"), stop())...), "xx")
		}
	}
	_, _, ways, wayExtras := basesOf()
	for n := 1; n <= 30; n++ {
		second := many(n, 0)
		second[n-1] = 1
		out := strings.Repeat("ab", 20000)[:ways[n-1]]
		x := token{257, "", n - 1, num(0, wayExtras[n-1])}
		want := out + string(copied([]byte(out), 3, len(out)))
		wantStream(t, stream("").stored(0, out).own(1, someFirst(), second, x, stop()), want)
	}
}

// complete is complete lengths in which n is, and otherwise only lengths that come ahead of it in the order of the third code.
func complete(n int) []int {
	switch {
	case n <= 8:
		return many(1<<n, n)
	case n <= 12:
		return append(many(255, 8), many(1<<(n-8), n)...)
	case n <= 14:
		return append(many(127, 7), many(1<<(n-7), n)...)
	}
	return slices.Concat(many(31, 5), many(31, 10), many(32, 15))
}

// Each number of lengths of the third code, of which the last one is needed; where it is not transmitted, it is 0.
func TestHowManyThirds(t *testing.T) {
	for thirds := 5; thirds <= 19; thirds++ {
		l := complete(thirdOrder()[thirds-1])
		first := append(many(max(0, 257-len(l)), 0), l...)
		used := slices.Compact(slices.Sorted(slices.Values(append([]int{0}, l...))))
		p := planOf(first, []int{0})
		p.third = thirdOf(append(used, 16)...)
		p.thirds = thirds
		var all []token
		for symbol, n := range first[:256] {
			if n > 0 {
				all = append(all, sym(symbol))
			}
		}
		all = append(all, stop())
		want := ""
		for _, x := range all[:len(all)-1] {
			want += string([]byte{byte(x.symbol)})
		}
		wantStream(t, stream("").codes(1, p).tokens(first, nil, all...), want)
		p.thirds--
		wantNoInflate(t, stream("").codes(1, p).tokens(first, nil, all...).ending(), 65536, api.ErrCode)
	}
	// With four of them every length is 0, so that there is no end.
	p := plan{257, 11, 4, thirdOf(18, 17, 16, 0), []step{zeros(138), zeros(119), zeros(11)}}
	wantNoEnding(t, stream("").codes(1, p), api.ErrCode)
}

// Each number of repetitions of each of the three symbols.
func TestRepetitions(t *testing.T) {
	for n := 3; n <= 138; n++ {
		first := many(257, 0)
		first[n], first[256] = 1, 1
		l := append([]step{zeros(n)}, each(append(first[n:], 0))...)
		s := string([]byte{byte(n)})
		p := planOf(first, []int{0}).with(l...)
		wantStream(t, stream("").codes(1, p).tokens(first, nil, append(lits(s+s), stop())...), s+s)
	}
	for n := 3; n <= 6; n++ {
		// Eight codes of three bits: n + 1 from the first octet on, the others from the end on.
		first := append(append(many(n+1, 3), many(256-n-1, 0)...), many(7-n, 3)...)
		l := append([]step{{3, ""}, repeat(n)}, each(append(first[n+1:], 0))...)
		s := "\x00\x01\x02\x03\x04\x05\x06"[:n+1]
		p := planOf(first, []int{0}).with(l...)
		wantStream(t, stream("").codes(1, p).tokens(first, nil, append(lits(s), stop())...), s)
	}
}

// 16 repeats what 16, 17 and 18 have made, too.
func TestRepetitionsOfRepetitions(t *testing.T) {
	first, second := append(many(256, 0), 2), []int{1}
	first[10], first[11], first[12] = 2, 2, 2
	for _, l := range [][]step{
		{zeros(3), repeat(3), repeat(4), {2, ""}, {2, ""}, {2, ""}, zeros(138), repeat(5), zeros(100), {2, ""}, {1, ""}},
		{zeros(10), {2, ""}, {2, ""}, {2, ""}, zeros(138), repeat(6), repeat(6), zeros(93), {2, ""}, {1, ""}},
	} {
		s := "\x0a\x0b\x0c"
		wantStream(t, stream("").codes(1, planOf(first, second).with(l...)).tokens(first, second, append(lits(s), stop())...), s)
	}
}

// The lengths of both codes are one list: a run goes on from the first code to the second one.
func TestRepetitionsAcrossCodes(t *testing.T) {
	first := append(many(256, 0), 2, 2)
	first['a'], first['b'] = 2, 2
	second := []int{2, 2, 2, 2, 0, 0, 0}
	l := append(each(first[:256]), step{2, ""}, repeat(5), zeros(3))
	x := append(lits("ab"), back(3, 2), back(3, 4), stop())
	wantStream(t, stream("").codes(1, planOf(first, second).with(l...)).tokens(first, second, x...), "ababa"+"bab")

	first, second = append(onlyStop(), many(9, 0)...), many(30, 0)
	l = []step{zeros(138), zeros(118), {1, ""}, zeros(39)}
	wantStream(t, stream("").codes(1, planOf(first, second).with(l...)).tokens(first, second, stop()), "")
}

// More repetitions than there is room for, by one and by many; just as many are none too many.
func TestTooManyRepetitions(t *testing.T) {
	first, second := onlyStop(), []int{0}
	list := append(slices.Clone(first), second...)
	p := planOf(first, second)
	for n := 3; n <= 138; n++ {
		for _, room := range []int{1, 2, n / 2, n - 2, n - 1} {
			wantNoEnding(t, stream("").codes(1, p.with(append(each(list[:258-room]), zeros(n))...)), api.ErrCode)
		}
		// There would be room, but not for the end.
		wantNoEnding(t, stream("").codes(1, p.with(append(each(list[:258-n]), zeros(n))...)), api.ErrCode)
	}
	for n := 3; n <= 6; n++ {
		for room := 1; room < n; room++ {
			wantNoEnding(t, stream("").codes(1, p.with(append(each(list[:258-room]), repeat(n))...)), api.ErrCode)
		}
		p := planOf(first, many(1+n, 0))
		wantStream(t, stream("").codes(1, p.with(append(each(list), repeat(n))...))+"0", "")
		p.seconds--
		wantNoEnding(t, stream("").codes(1, p.with(append(each(list), repeat(n))...)), api.ErrCode)
	}
	p.seconds = 30
	wantStream(t, stream("").codes(1, p.with(append(each(first), zeros(30))...))+"0", "")
	wantNoEnding(t, stream("").codes(1, p.with(append(each(first), zeros(31))...)), api.ErrCode)
}
