package match_test

import (
	"bytes"
	"math"
	"slices"
	"strings"
	"testing"

	"hamper/api"
	"hamper/match"
)

const (
	leastMatch = 3     // octets of a copy, at least
	mostMatch  = 258   // octets of a copy, at most
	mostDist   = 32768 // ago, at most
	mostInput  = 65536 // octets that are matched, at most
)

// lit is the token of an octet.
func lit(c byte) api.Token { return api.Token{Lit: c} }

// lits is the tokens of octets, each by itself.
func lits(s string) []api.Token {
	var l []api.Token
	for i := range len(s) {
		l = append(l, lit(s[i]))
	}
	return l
}

// back is the token of a copy.
func back(size, dist int) api.Token { return api.Token{Len: size, Dist: dist} }

// bestOf is the best match at an offset, by the chapter's words.
func bestOf(b []byte, at int) (int, int) {
	size, dist := 0, 0
	for d := 1; d <= mostDist && d <= at; d++ {
		n := 0
		for n < mostMatch && at+n < len(b) && b[at+n] == b[at+n-d] {
			n++
		}
		if n > size {
			size, dist = n, d
		}
	}
	if size < leastMatch {
		return 0, 0
	}
	return size, dist
}

// tokensOf is the tokens of octets, by the chapter's words.
func tokensOf(b []byte) []api.Token {
	var l []api.Token
	for at := 0; at < len(b); {
		size, dist := bestOf(b, at)
		if size == 0 {
			l = append(l, lit(b[at]))
			at++
		} else {
			l = append(l, back(size, dist))
			at += size
		}
	}
	return l
}

// isToken: is a token valid, by the chapter's words?
func isToken(x api.Token) bool {
	if x.Len == 0 && x.Dist == 0 {
		return true
	}
	return x.Len >= leastMatch && x.Len <= mostMatch && x.Dist >= 1 && x.Dist <= mostDist && x.Lit == 0
}

// expansionOf is what Expand has to answer, by the chapter's words.
func expansionOf(l []api.Token, most int) ([]byte, api.Errno, int) {
	if most < 0 {
		return nil, api.ErrArg, 0
	}
	var s string
	for i, x := range l {
		if !isToken(x) {
			return nil, api.ErrArg, i
		}
		if x.Dist > len(s) {
			return nil, api.ErrDist, i
		}
		if x.Len == 0 {
			s += string([]byte{x.Lit})
		} else {
			// The octets from there on, again and again.
			from := s[len(s)-x.Dist:]
			s += strings.Repeat(from, x.Len/x.Dist+1)[:x.Len]
		}
		if len(s) > most {
			return nil, api.ErrBound, i
		}
	}
	return []byte(s), api.OK, 0
}

// wantBest asks for a match.
func wantBest(t *testing.T, b []byte, at, size, dist int) {
	t.Helper()
	was := bytes.Clone(b)
	n, d, e := match.Best(b, at)
	if e != api.OK || n != size || d != dist {
		t.Fatalf("Best of %d octets (%.40q) at %d: %d, %d, error %d; want %d, %d", len(b), b, at, n, d, e, size, dist)
	}
	wantSame(t, b, was)
}

// wantNoBest asks for an error.
func wantNoBest(t *testing.T, b []byte, at int, want api.Errno) {
	t.Helper()
	was := bytes.Clone(b)
	if n, d, e := match.Best(b, at); e != want || n != 0 || d != 0 {
		t.Fatalf("Best of %d octets (%.40q) at %d: %d, %d, error %d; want error %d", len(b), b, at, n, d, e, want)
	}
	wantSame(t, b, was)
}

// wantTokens asks for tokens.
func wantTokens(t *testing.T, b []byte, want ...api.Token) {
	t.Helper()
	was := bytes.Clone(b)
	l, e := match.Find(b)
	if e != api.OK || len(l) != len(want) {
		t.Fatalf("Find of %d octets (%.40q): %d tokens, error %d; want %d", len(b), b, len(l), e, len(want))
	}
	for i := range want {
		if l[i] != want[i] {
			t.Fatalf("Find of %d octets (%.40q): token %d is %v; want %v", len(b), b, i, l[i], want[i])
		}
	}
	wantSame(t, b, was)
}

// wantNoTokens asks for ErrFull.
func wantNoTokens(t *testing.T, b []byte) {
	t.Helper()
	was := bytes.Clone(b)
	if l, e := match.Find(b); e != api.ErrFull || l != nil {
		t.Fatalf("Find of %d octets: %d tokens, error %d; want error %d", len(b), len(l), e, api.ErrFull)
	}
	wantSame(t, b, was)
}

// wantExpansion asks for octets.
func wantExpansion(t *testing.T, l []api.Token, most int, want string) {
	t.Helper()
	was := slices.Clone(l)
	b, e, at := match.Expand(l, most)
	if e != api.OK || at != 0 || string(b) != want {
		t.Fatalf("Expand(%.200v, %d): %.100q, error %d at %d; want %.100q", show(l), most, b, e, at, want)
	}
	wantSame(t, l, was)
}

// wantNoExpansion asks for an error at a token.
func wantNoExpansion(t *testing.T, l []api.Token, most int, want api.Errno, place int) {
	t.Helper()
	was := slices.Clone(l)
	b, e, at := match.Expand(l, most)
	if e != want || at != place || b != nil {
		t.Fatalf("Expand(%v, %d): %.100q, error %d at %d; want error %d at %d", show(l), most, b, e, at, want, place)
	}
	wantSame(t, l, was)
}

// wantExpansionModel asks what Expand says, beside the model.
func wantExpansionModel(t *testing.T, l []api.Token, most int) {
	t.Helper()
	b, e, at := expansionOf(l, most)
	if e == api.OK {
		wantExpansion(t, l, most, string(b))
		return
	}
	wantNoExpansion(t, l, most, e, at)
}

// show is the last tokens of a list, for a message.
func show(l []api.Token) []api.Token { return l[max(0, len(l)-20):] }

// wantSame asks whether an argument is as it was.
func wantSame[T comparable](t *testing.T, l, was []T) {
	t.Helper()
	if !slices.Equal(l, was) {
		t.Fatal("the argument has changed")
	}
}

// words calls f with all words of n octets of an alphabet.
func words(n int, alphabet string, f func([]byte)) {
	b := make([]byte, n)
	var fill func(int)
	fill = func(i int) {
		if i == n {
			f(b)
			return
		}
		for _, c := range []byte(alphabet) {
			b[i] = c
			fill(i + 1)
		}
	}
	fill(0)
}

// chance is numbers that look like no rule, the same in each run.
type chance uint64

func (c *chance) next(n int) int {
	*c = *c*6364136223846793005 + 1442695040888963407
	return int(uint64(*c) >> 33 % uint64(n))
}

// octets is n octets of so many kinds.
func (c *chance) octets(n, kinds int) []byte {
	b := make([]byte, n)
	for i := range b {
		b[i] = byte(c.next(kinds))
	}
	return b
}

// copies is n octets of so many kinds, many of which are copies of earlier ones.
func (c *chance) copies(n, kinds int) []byte {
	b := c.octets(1, kinds)
	for len(b) < n {
		if c.next(3) == 0 {
			b = append(b, c.octets(1+c.next(5), kinds)...)
			continue
		}
		dist := 1 + c.next(len(b))
		for range c.next(300) {
			b = append(b, b[len(b)-dist])
		}
	}
	return b[:n]
}

// plain is n octets, up to 65536, of which none is 0 or above 41, and no three in a row occur twice.
func plain(n int) []byte {
	// All three-letter words over so many letters are more than 65536; a de Bruijn sequence has each of them once.
	const kinds = 41
	var b []byte
	var grow func(word []byte, period int)
	grow = func(word []byte, period int) {
		if len(word) == leastMatch {
			if leastMatch%period == 0 {
				b = append(b, word[:period]...)
			}
			return
		}
		first := byte(1)
		if len(word) > 0 {
			first = word[len(word)-period]
			grow(append(bytes.Clone(word), first), period)
			first++
		}
		for c := first; c <= kinds; c++ {
			grow(append(bytes.Clone(word), c), len(word)+1)
		}
	}
	grow(nil, 1)
	return b[:n]
}

// badPlaces are no offsets, however many octets there are.
func badPlaces() []int {
	return []int{-1, -2, -3, -32768, -65536, -65537, mostInput, mostInput + 1, math.MaxInt32, math.MinInt32, 1 << 32, 1<<32 + 1, -1 << 32, -1<<32 + 1, 1 << 62, math.MaxInt, math.MaxInt - 1, math.MinInt, math.MinInt + 1}
}
