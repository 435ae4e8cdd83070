package match_test

import (
	"math"
	"strings"
	"testing"

	"hamper/api"
	"hamper/match"
)

// P11.3: the expansion of tokens, and what is refused.

func TestExpandByHand(t *testing.T) {
	for _, c := range []struct {
		l    []api.Token
		want string
	}{
		{nil, ""},
		{[]api.Token{}, ""},
		{lits("a"), "a"},
		{lits("aba"), "aba"},
		{[]api.Token{lit(0), lit(255), lit(0)}, "\x00\xff\x00"},
		{[]api.Token{{}}, "\x00"},
		{append(lits("abc"), back(3, 3)), "abcabc"},
		{append(lits("abc"), back(3, 3), lit('d')), "abcabcd"},
		{append(lits("abcd"), back(3, 4)), "abcdabc"},
		{append(lits("abcd"), back(4, 4)), "abcdabcd"},
		// An octet that the token itself has appended is copied, too.
		{append(lits("ab"), back(5, 2)), "abababa"},
		{append(lits("ab"), back(3, 1)), "abbbb"},
		{append(lits("abc"), back(8, 3)), "abcabcabcab"},
		{append(lits("abc"), back(8, 2)), "abcbcbcbcbc"},
		{append(lits("a"), back(258, 1)), strings.Repeat("a", 259)},
		{append(lits("xyz"), back(258, 3), lit('!')), strings.Repeat("xyz", 87) + "!"},
		// Each token sees what those ahead of it have appended.
		{append(lits("ab"), back(3, 2), back(4, 5), lit('c'), back(3, 1)), "ababaababcccc"},
		{append(lits("a"), back(3, 1), lit('b'), back(5, 5), back(3, 1)), "aaaabaaaabbbb"},
		{append(lits("ab"), back(3, 1), back(3, 5)), "abbbbabb"},
	} {
		for _, most := range []int{len(c.want), len(c.want) + 1, 65536, math.MaxInt32, 1 << 32, math.MaxInt} {
			wantExpansion(t, c.l, most, c.want)
		}
	}
}

// The edges of both numbers, with enough octets to copy from.
func TestEdgesOfTokens(t *testing.T) {
	s := string(plain(33000))
	all := lits(s)
	for _, size := range []int{3, 4, 257, 258} {
		for _, dist := range []int{1, 2, 3, 257, 258, 259, 32767, 32768} {
			want := s + strings.Repeat(s[len(s)-dist:], size/dist+1)[:size]
			wantExpansion(t, append(all, back(size, dist)), len(s)+size, want)
			wantNoExpansion(t, append(all, back(size, dist)), len(s)+size-1, api.ErrBound, 33000)
		}
		for _, dist := range []int{0, -1, 32769, 32770, 33000, 65536, 1 << 32, 1<<32 + 1, math.MaxInt, math.MinInt} {
			wantNoExpansion(t, append(all, back(size, dist)), 65536, api.ErrArg, 33000)
		}
	}
	for _, size := range badSizes() {
		for _, dist := range []int{1, 3, 32768} {
			wantNoExpansion(t, append(all, back(size, dist)), 65536, api.ErrArg, 33000)
		}
	}
}

// badSizes are lengths of no copy.
func badSizes() []int {
	return []int{0, 1, 2, -1, -3, -258, 259, 260, 512, 514, 515, 65536 + 3, 1 << 32, 1<<32 + 3, -1<<32 + 3, math.MaxInt, math.MinInt, math.MinInt + 3}
}

// badDists are distances of no copy.
func badDists() []int {
	return []int{0, -1, -2, -32768, 32769, 32770, 65536, 65537, 1 << 32, 1<<32 + 1, -1<<32 + 1, math.MaxInt, math.MinInt, math.MinInt + 1}
}

// notValid are tokens that are none, whatever is ahead of them.
func notValid() []api.Token {
	l := []api.Token{{Lit: 1, Len: 3, Dist: 1}, {Lit: 255, Len: 258, Dist: 1}, {Lit: 'a', Len: 3, Dist: 1}}
	for _, size := range badSizes() {
		l = append(l, back(size, 1), api.Token{Lit: 'a', Len: size, Dist: 1})
		if size != 0 {
			l = append(l, back(size, 0), api.Token{Lit: 'a', Len: size})
		}
		for _, dist := range badDists() {
			if size != 0 || dist != 0 {
				l = append(l, back(size, dist))
			}
		}
	}
	for _, dist := range badDists() {
		l = append(l, back(3, dist), back(258, dist), api.Token{Lit: 'a', Len: 3, Dist: dist})
		if dist != 0 {
			l = append(l, back(0, dist), api.Token{Lit: 'a', Dist: dist})
		}
	}
	return l
}

func TestTokensThatAreNone(t *testing.T) {
	for _, bad := range notValid() {
		for _, most := range []int{0, 1, 3, 65536, math.MaxInt} {
			wantNoExpansion(t, []api.Token{bad}, most, api.ErrArg, 0)
			wantNoExpansion(t, []api.Token{bad, lit('b'), bad}, most, api.ErrArg, 0)
		}
		for _, most := range []int{6, 7, math.MaxInt} {
			wantNoExpansion(t, append(lits("abc"), back(3, 3), bad, lit('x')), most, api.ErrArg, 4)
		}
	}
}

// A distance may reach the first octet, and no farther.
func TestTooFarBack(t *testing.T) {
	for n := range 10 {
		all := lits("abcdefghij"[:n])
		for dist := 1; dist <= 12; dist++ {
			l := append(all, back(3, dist))
			if dist > n {
				wantNoExpansion(t, l, 65536, api.ErrDist, n)
				wantNoExpansion(t, append(l, back(9, 9), back(2, 2)), 65536, api.ErrDist, n)
			} else {
				wantExpansionModel(t, l, n+3)
			}
		}
		wantNoExpansion(t, append(all, back(3, 32768)), 65536, api.ErrDist, n)
	}
	l := append(lits("a"), back(3, 1), back(258, 4))
	wantExpansion(t, l, 300, strings.Repeat("a", 262))
	wantNoExpansion(t, append(l, back(3, 263)), 300, api.ErrDist, 3)
	wantExpansion(t, append(l, back(3, 262)), 300, strings.Repeat("a", 265))
	s := plain(32767)
	wantNoExpansion(t, append(lits(string(s)), back(3, 32768)), 65536, api.ErrDist, 32767)
	wantExpansion(t, append(lits(string(s)), lit(0), back(3, 32768)), 65536, string(s)+"\x00"+string(s[:3]))
}

func TestBound(t *testing.T) {
	wantExpansion(t, nil, 0, "")
	wantNoExpansion(t, lits("a"), 0, api.ErrBound, 0)
	wantNoExpansion(t, lits("abc"), 2, api.ErrBound, 2)
	wantExpansion(t, lits("abc"), 3, "abc")
	for most := range 20 {
		wantExpansionModel(t, append(lits("ab"), back(5, 2), lit('c'), back(4, 8)), most)
	}
	l := append(lits("ab"), back(5, 2))
	wantNoExpansion(t, l, 6, api.ErrBound, 2)
	wantNoExpansion(t, l, 2, api.ErrBound, 2)
	wantNoExpansion(t, l, 1, api.ErrBound, 1)
	wantNoExpansion(t, append(lits("a"), back(258, 1)), 258, api.ErrBound, 1)
	wantExpansion(t, append(lits("a"), back(258, 1)), 259, strings.Repeat("a", 259))
}

// Of several errors the first token's is told; of one token's, the one that is named first.
func TestOrderOfErrors(t *testing.T) {
	for _, most := range []int{-1, -2, -65536, math.MinInt32, -1 << 32, -1<<32 + 1, math.MinInt, math.MinInt + 1} {
		wantNoExpansion(t, nil, most, api.ErrArg, 0)
		wantNoExpansion(t, lits("a"), most, api.ErrArg, 0)
		wantNoExpansion(t, append(lits("a"), back(2, 2)), most, api.ErrArg, 0)
		wantNoExpansion(t, append(lits("a"), back(3, 2)), most, api.ErrArg, 0)
	}
	wantNoExpansion(t, []api.Token{back(3, 1)}, 9, api.ErrDist, 0)
	wantNoExpansion(t, []api.Token{back(3, 1)}, 0, api.ErrDist, 0)                      // it is also more than 0 octets
	wantNoExpansion(t, append(lits("ab"), back(258, 3)), 2, api.ErrDist, 2)             // likewise
	wantNoExpansion(t, []api.Token{back(2, 1)}, 0, api.ErrArg, 0)                       // it is not valid, above all
	wantNoExpansion(t, []api.Token{back(3, 32769)}, 0, api.ErrArg, 0)                   // likewise
	wantNoExpansion(t, append(lits("ab"), back(259, 1)), 2, api.ErrArg, 2)              // likewise
	wantNoExpansion(t, append(lits("ab"), back(3, 3), back(2, 1)), 2, api.ErrDist, 2)   // the first token
	wantNoExpansion(t, append(lits("abc"), back(3, 4), back(2, 1)), 2, api.ErrBound, 2) // likewise
	wantNoExpansion(t, append(lits("ab"), back(2, 1), back(3, 9)), 2, api.ErrArg, 2)    // likewise
}

// Each list of two or three tokens from some, good and bad.
func TestExpandOfAllLists(t *testing.T) {
	some := []api.Token{lit('a'), lit('b'), {}, back(3, 1), back(4, 2), back(3, 3), back(3, 4), back(258, 1), back(2, 1), back(3, 0), back(0, 1), {Lit: 'a', Len: 3, Dist: 1}}
	for _, most := range []int{-1, 0, 1, 2, 3, 4, 5, 6, 260, 261, 600} {
		for _, a := range some {
			wantExpansionModel(t, []api.Token{a}, most)
			for _, b := range some {
				wantExpansionModel(t, []api.Token{a, b}, most)
				for _, c := range some {
					wantExpansionModel(t, []api.Token{a, b, c}, most)
					wantExpansionModel(t, []api.Token{lit('x'), a, b, c}, most)
				}
			}
		}
	}
}

func TestExpandBesideModel(t *testing.T) {
	c := chance(5)
	for range 3000 {
		var l []api.Token
		room := 0
		for range c.next(40) {
			switch {
			case room == 0 || c.next(3) == 0:
				l = append(l, lit(byte(c.next(256))))
				room++
			case c.next(60) == 0:
				l = append(l, back(c.next(300), c.next(40000)))
			default:
				size := 3 + c.next(1+c.next(256))
				l = append(l, back(size, 1+c.next(room)))
				room += size
			}
		}
		wantExpansionModel(t, l, room)
		wantExpansionModel(t, l, c.next(room+300))
	}
}

func TestGreatExpansion(t *testing.T) {
	l := lits("ab")
	for range 10000 {
		l = append(l, back(258, 2))
	}
	n := 2 + 10000*258
	wantExpansion(t, l, n, strings.Repeat("ab", n/2))
	wantNoExpansion(t, l, n-1, api.ErrBound, 10001)
}

func TestExpandOfPieces(t *testing.T) {
	l := append(lits("abc"), back(3, 3), back(2, 2))
	wantExpansion(t, l[:4], 9, "abcabc")
	wantExpansion(t, l[:0], 9, "")
	wantExpansion(t, l[1:3], 9, "bc")
	wantNoExpansion(t, l[1:4], 9, api.ErrDist, 2)
	wantNoExpansion(t, l[1:], 1, api.ErrBound, 1)
}

// Each result is memory of its own.
func TestExpandAgain(t *testing.T) {
	l := append(lits("ab"), back(5, 2))
	first, _, _ := match.Expand(l, 7)
	second, _, _ := match.Expand(l, 7)
	l[0] = lit('z')
	for i := range first[:cap(first)] {
		first[:cap(first)][i] = 'x'
	}
	wantSame(t, second, []byte("abababa"))
	wantExpansion(t, l, 7, "zbzbzbz")
}
