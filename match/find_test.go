package match_test

import (
	"bytes"
	"strings"
	"testing"

	"hamper/api"
	"hamper/match"
)

// P11.2: the tokens of octets, and what is refused.

func TestFindByHand(t *testing.T) {
	for _, c := range []struct {
		b    string
		want []api.Token
	}{
		{"", nil},
		{"a", lits("a")},
		{"ab", lits("ab")},
		{"aa", lits("aa")},
		{"aaa", lits("aaa")},
		{"aaaa", []api.Token{lit('a'), back(3, 1)}},
		{"aaaaa", []api.Token{lit('a'), back(4, 1)}},
		{"abab", lits("abab")},
		{"ababa", []api.Token{lit('a'), lit('b'), back(3, 2)}},
		{"abcab", lits("abcab")},
		{"abcabc", append(lits("abc"), back(3, 3))},
		{"abcabcd", append(lits("abc"), back(3, 3), lit('d'))},
		{"abcabcab", append(lits("abc"), back(5, 3))},
		{"abcxabcyabc", append(lits("abcx"), back(3, 4), lit('y'), back(3, 4))},
		{"\x00\x00\x00\x00", []api.Token{lit(0), back(3, 1)}},
		{"\x00\xff\x00\xff\x00\xff\xff", []api.Token{lit(0), lit(255), back(4, 2), lit(255)}},
	} {
		wantTokens(t, []byte(c.b), c.want...)
	}
}

// At each offset the best match is taken, though a literal ahead of a longer one would need fewer tokens.
func TestFindIsGreedy(t *testing.T) {
	wantTokens(t, []byte("abc-bcde-abcde"), append(lits("abc-bcde-"), back(3, 9), lit('d'), lit('e'))...)
	wantTokens(t, []byte("abcbcdefgabcdefg"), append(lits("abcbcdefg"), back(3, 9), back(4, 7))...)
	wantTokens(t, []byte("wxyxyzwxyz"), append(lits("wxyxyz"), back(3, 6), lit('z'))...)
}

// Offsets within what was matched are ones to copy from, too.
func TestWithinMatches(t *testing.T) {
	wantTokens(t, []byte("aaaaaabaaab"), lit('a'), back(5, 1), lit('b'), back(4, 4))
	wantTokens(t, []byte("abcdeabcde-bcde"), append(lits("abcde"), back(5, 5), lit('-'), back(4, 5))...)
	wantTokens(t, []byte("abcdeabcde+deab"), append(lits("abcde"), back(5, 5), lit('+'), back(4, 8))...)
	wantTokens(t, []byte("abcdabcdx.cdx"), append(lits("abcd"), back(4, 4), lit('x'), lit('.'), back(3, 4))...)
	wantTokens(t, []byte("abcdabcdx.dx."), append(lits("abcd"), back(4, 4), lit('x'), lit('.'), back(3, 3))...)
	wantTokens(t, []byte("abcabcabc.cab"), append(lits("abc"), back(6, 3), lit('.'), back(3, 5))...)
}

func TestOneOctetAgainAndAgain(t *testing.T) {
	for _, n := range []int{3, 4, 5, 258, 259, 260, 261, 262, 516, 517, 518, 519, 520, 600, 32768, 32769, 65535, 65536} {
		want := []api.Token{lit('q')}
		left := n - 1
		for ; left >= 3; left -= min(left, 258) {
			want = append(want, back(min(left, 258), 1))
		}
		for range left {
			want = append(want, lit('q'))
		}
		wantTokens(t, bytes.Repeat([]byte("q"), n), want...)
	}
	wantTokens(t, bytes.Repeat([]byte("q"), 600), lit('q'), back(258, 1), back(258, 1), back(83, 1))
	wantTokens(t, bytes.Repeat([]byte("q"), 261), lit('q'), back(258, 1), lit('q'), lit('q'))
}

func TestNothingTwice(t *testing.T) {
	for _, n := range []int{1, 100, 32768, 32769, 65535, 65536} {
		wantTokens(t, plain(n), lits(string(plain(n)))...)
	}
	var all []byte
	for c := range 256 {
		all = append(all, byte(c))
	}
	wantTokens(t, all, lits(string(all))...)
	wantTokens(t, append(all, all...), append(lits(string(all)), back(256, 256))...)
	all = append(all, '-', '?', '+')
	wantTokens(t, append(all, all...), append(lits(string(all)), back(258, 259), lit('+'))...)
}

// A token reaches back 32768 octets, and no farther.
func TestFindMostDist(t *testing.T) {
	for _, dist := range []int{32767, 32768, 32769, 32770, 50000, 65533} {
		b := append([]byte{0, 0, 0}, plain(dist-3)...)
		want := lits(string(b))
		b = append(b, 0, 0, 0)
		if dist <= 32768 {
			want = append(want, back(3, dist))
		} else {
			want = append(want, lits("\x00\x00\x00")...)
		}
		wantTokens(t, b, want...)
	}
	// The same octets twice: each of the second ones is just near enough to its first one.
	b := append(plain(32767), 0)
	want := lits(string(b))
	for range 127 {
		want = append(want, back(258, 32768))
	}
	wantTokens(t, append(b, b...), append(want, lit(b[32766]), lit(0))...)
	// With one octet more between them, none is.
	b = append(plain(32768), 0)
	b = append(b, b[:32767]...)
	wantTokens(t, b, lits(string(b))...)
}

// The tokens of a word that returns: the nearest of those that are as long.
func TestFindNearest(t *testing.T) {
	s := "one two three "
	b := []byte(strings.Repeat(s, 3))
	wantTokens(t, b, append(lits(s), back(28, 14))...)
	b = []byte("abc1abc2abc3abc4abc1abc2")
	want := append(lits("abc1"), back(3, 4), lit('2'), back(3, 4), lit('3'), back(3, 4), lit('4'), back(8, 16))
	wantTokens(t, b, want...)
	b = []byte("abc1abc2abc1abc3abc1")
	want = append(lits("abc1"), back(3, 4), lit('2'), back(7, 8), lit('3'), back(4, 8))
	wantTokens(t, b, want...)
}

// wantModel asks for the tokens, beside the model, and that each of them is what Best says.
func wantModel(t *testing.T, b []byte) {
	t.Helper()
	wantTokens(t, b, tokensOf(b)...)
}

func TestFindOfAllWords(t *testing.T) {
	for n := range 13 {
		words(n, "ab", func(b []byte) { wantModel(t, b) })
	}
	for n := range 9 {
		words(n, "abc", func(b []byte) { wantModel(t, b) })
	}
}

func TestFindBesideModel(t *testing.T) {
	c := chance(2)
	for range 300 {
		for _, kinds := range []int{1, 2, 3, 5, 256} {
			wantModel(t, c.octets(c.next(400), kinds))
			wantModel(t, c.copies(1+c.next(2000), kinds))
		}
	}
	// So long that much is farther away than it may be.
	for _, kinds := range []int{1, 2, 30, 256} {
		wantModel(t, c.copies(65536-c.next(2), kinds))
	}
}

// Each token of Find is what Best says of its offset.
func TestFindBesideBest(t *testing.T) {
	c := chance(3)
	for range 20 {
		b := c.copies(1+c.next(3000), 1+c.next(20))
		l, e := match.Find(b)
		if e != api.OK {
			t.Fatal(e)
		}
		at := 0
		for _, x := range l {
			wantBest(t, b, at, x.Len, x.Dist)
			if x.Len == 0 && x.Lit != b[at] {
				t.Fatalf("at %d of %q: %v", at, b, x)
			}
			at += max(x.Len, 1)
		}
		if at != len(b) {
			t.Fatalf("%d octets of %d", at, len(b))
		}
	}
}

// Octets at which each offset has thousands of others that begin alike.
func TestManyThatBeginAlike(t *testing.T) {
	c := chance(4)
	inputs := [][]byte{c.octets(65536, 2), c.octets(65536, 3)}
	for _, run := range []int{3, 4, 17, 200, 257, 258, 259} {
		var b []byte
		for len(b) < 65536 {
			b = append(b, bytes.Repeat([]byte{0}, run-c.next(3))...)
			b = append(b, c.octets(2, 256)...)
		}
		inputs = append(inputs, b[:65536])
	}
	for _, b := range inputs {
		l, e := match.Find(b)
		if e != api.OK {
			t.Fatal(e)
		}
		wantExpansion(t, l, 65536, string(b))
	}
}

func TestFindOfTooMany(t *testing.T) {
	for _, n := range []int{65537, 65538, 100000, 131072, 131073} {
		wantNoTokens(t, make([]byte, n))
		wantNoTokens(t, bytes.Repeat([]byte("ab"), n)[:n])
	}
	// What is behind the octets in the caller's memory does not count.
	wantTokens(t, make([]byte, 70000)[:4], lit(0), back(3, 1))
	if l, e := match.Find(make([]byte, 70000)[1:65537]); e != api.OK || len(l) != 256 {
		t.Errorf("Find of 65536 octets: %d tokens, error %d", len(l), e)
	}
}

func TestFindOfPieces(t *testing.T) {
	b := []byte("abcabcabcabc")
	wantTokens(t, b[3:5], lits("ab")...)
	wantTokens(t, b[:5], lits("abcab")...)
	wantTokens(t, b[1:7], append(lits("bca"), back(3, 3))...)
	wantTokens(t, b[9:], lits("abc")...)
	wantTokens(t, nil)
	wantTokens(t, []byte{})
	wantTokens(t, b[4:4])
	wantSame(t, b, []byte("abcabcabcabc"))
}

// Nothing is kept of one call for the next, and each result is memory of its own.
func TestFindAgain(t *testing.T) {
	b := []byte("abcabcd")
	want := append(lits("abc"), back(3, 3), lit('d'))
	first, _ := match.Find(b)
	second, _ := match.Find(b)
	copy(b, "zzzzzzz")
	wantSame(t, first, want)
	for i := range first[:cap(first)] {
		first[:cap(first)][i] = api.Token{Lit: 9, Len: 9, Dist: 9}
	}
	wantSame(t, second, want)
	wantTokens(t, []byte("abcabcd"), want...)
	wantTokens(t, []byte("bcd"), lits("bcd")...)
}
