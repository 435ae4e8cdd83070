package match_test

import (
	"bytes"
	"slices"
	"strings"
	"testing"

	"hamper/api"
	"hamper/match"
)

// P11.1: the best match at an offset, and what is refused.

func TestBestByHand(t *testing.T) {
	for _, c := range []struct {
		b              string
		at, size, dist int
	}{
		{"abcdabce", 4, 3, 4},
		{"abcabcd", 0, 0, 0},
		{"abcabcd", 1, 0, 0},
		{"abcabcd", 2, 0, 0},
		{"abcabcd", 3, 3, 3},
		{"abcabcd", 4, 0, 0}, // two octets are too few
		{"abcabcd", 5, 0, 0},
		{"abcabcd", 6, 0, 0},
		{"aaaa", 0, 0, 0},
		{"aaaa", 1, 3, 1},
		{"aaaa", 2, 0, 0},
		{"aaaa", 3, 0, 0},
		{"abababab", 2, 6, 2}, // reaches into what it copies
		{"abababab", 3, 5, 2},
		{"abababab", 5, 3, 2},
		{"abababab", 6, 0, 0},
		{"a", 0, 0, 0},
		{"aa", 1, 0, 0},
		{"aaa", 1, 0, 0},
		{"\x00\x00\x00\x00\x00", 1, 4, 1},
		{"\xff\x00\xfe\x00\xff\x00\xfe\x01", 4, 3, 4},
	} {
		wantBest(t, []byte(c.b), c.at, c.size, c.dist)
	}
}

func TestMoreOctetsAreBetter(t *testing.T) {
	wantBest(t, []byte("abcdefabcabcdef"), 9, 6, 9)                    // not 3 from the nearer place
	wantBest(t, []byte("abcabcdefabcdef"), 9, 6, 6)                    // nearer and longer
	wantBest(t, []byte("abcdefabcdeabcdabcabcdef"), 18, 6, 18)         // the farthest of four
	wantBest(t, []byte("abcabcdabcdeabcdefabcdef"), 18, 6, 6)          // the nearest of four
	wantBest(t, []byte("abcdeabcdefabcdabcdef"), 15, 6, 10)            // the middle one of three
	wantBest(t, []byte("abcdabcabce"), 7, 3, 3)                        // the last octet is none of any match
	wantBest(t, []byte("aaaabaaaaaab"), 5, 4, 5)                       // not 3 of itself, and not 2
	wantBest(t, []byte("aaaabaaaaaab"), 6, 5, 1)                       // the octet right ahead, five times
	wantBest(t, []byte("aaabaaaaaab"), 4, 3, 4)                        // two of the places have no three
	wantBest(t, []byte("xabcyabcyabcz"), 9, 3, 4)                      // which is the lesser of 4 and 8
	wantBest(t, []byte("abcxyabcxzabcxyabcxw"), 15, 4, 5)              // which is the least of 5, 10 and 15
	wantBest(t, []byte("abcxyabcxzabcxyabcxz"), 15, 5, 10)             // which has the z, too
	wantBest(t, []byte("abcxyabcxzabcxyabcxy"), 15, 5, 5)              // and the y is also 15 ago
	wantBest(t, []byte("abcxyabcxzabcxzabcxy"), 15, 5, 15)             // the farthest alone has it
	wantBest(t, append([]byte("abcd"), "abcabcabcabcd"...), 13, 4, 13) // one octet more, of the first
}

func TestLeastDistOfSeveral(t *testing.T) {
	for n := 3; n <= 8; n++ {
		s := "abcdefgh"[:n]
		b := []byte(strings.Repeat(s+"-", 5) + s)
		// A distance of two of these gives as many octets, up to the end.
		wantBest(t, b, 5*(n+1), n, n+1)
		b = append(b, '+')
		wantBest(t, b, 5*(n+1), n, n+1)
	}
	wantBest(t, bytes.Repeat([]byte{7}, 400), 399-257, 258, 1)
	wantBest(t, bytes.Repeat([]byte{7}, 400), 300, 100, 1)
	wantBest(t, bytes.Repeat([]byte("xyz"), 200), 300, 258, 3)
	wantBest(t, bytes.Repeat([]byte("xyz"), 200), 590, 10, 3)
}

// A match has at most 258 octets, though more are equal: of several such places the nearest is taken.
func TestMostMatch(t *testing.T) {
	s := plain(300)
	for _, n := range []int{256, 257, 258, 259, 260, 299, 300} {
		b := slices.Concat(s[:n], []byte{0}, s[:n])
		wantBest(t, b, n+1, min(n, 258), n+1)
		b = append(b, 99)
		wantBest(t, b, n+1, min(n, 258), n+1)
		// The farther place goes on longer than the nearer one.
		b = slices.Concat(s, []byte{0}, s[:n], []byte{0}, s)
		if n < 258 {
			wantBest(t, b, 302+n, 258, 302+n)
		} else {
			wantBest(t, b, 302+n, 258, n+1)
		}
	}
	b := make([]byte, 65536)
	for _, at := range []int{1, 2, 257, 258, 259, 32767, 32768, 32769, 65277, 65278} {
		wantBest(t, b, at, 258, 1)
	}
	wantBest(t, b, 65535, 0, 0)
	wantBest(t, b, 65534, 0, 0)
	for left := 3; left <= 258; left++ {
		wantBest(t, b, 65536-left, left, 1)
	}
}

// A match reaches back 32768 octets, and no farther.
func TestMostDist(t *testing.T) {
	const word = "\x00\x00\x01\x00\x00\x02"
	for _, dist := range []int{32760, 32766, 32767, 32768, 32769, 32770, 40000, 65000} {
		for _, ahead := range []string{"", "?", "???????"} {
			b := append([]byte(ahead+word), plain(dist-len(word))...)
			at := len(b)
			b = append(b, word...)
			if dist <= 32768 {
				wantBest(t, b, at, 6, dist)
				wantBest(t, b, at+1, 5, dist)
				wantBest(t, b, at+3, 3, dist)
			} else {
				wantBest(t, b, at, 0, 0)
				wantBest(t, b, at+1, 0, 0)
			}
		}
	}
	// The longer one is too far away, the shorter one is not.
	for _, far := range []int{32767, 32768, 32769} {
		gap := plain(far - 12)
		b := slices.Concat([]byte(word), gap[:100], []byte(word[:4]), gap[100:], []byte{99, 98}, []byte(word))
		if far <= 32768 {
			wantBest(t, b, far, 6, far)
		} else {
			wantBest(t, b, far, 4, far-106)
		}
	}
}

// What is behind the last octet in the caller's memory is none of the octets.
func TestBestAtTheEnd(t *testing.T) {
	b := []byte("abcdeabcde")
	for n := 6; n <= 10; n++ {
		size, dist := n-5, 5
		if size < 3 {
			size, dist = 0, 0
		}
		wantBest(t, b[:n], 5, size, dist)
	}
	wantBest(t, b[2:9], 5, 0, 0)
	wantBest(t, b[3:9], 5, 0, 0)
	wantBest(t, b[1:9], 5, 3, 5)
	wantNoBest(t, b[:5], 5, api.ErrRange)
	wantSame(t, b, []byte("abcdeabcde"))
}

func TestBestOfAllWords(t *testing.T) {
	for n := range 11 {
		words(n, "ab", func(b []byte) { wantEachBest(t, b) })
	}
	for n := range 8 {
		words(n, "abc", func(b []byte) { wantEachBest(t, b) })
	}
}

// wantEachBest asks for the match at each offset, beside the model.
func wantEachBest(t *testing.T, b []byte) {
	t.Helper()
	for at := range b {
		size, dist := bestOf(b, at)
		wantBest(t, b, at, size, dist)
	}
}

func TestBestBesideModel(t *testing.T) {
	c := chance(1)
	for range 60 {
		for _, kinds := range []int{1, 2, 3, 5, 256} {
			wantEachBest(t, c.octets(c.next(150), kinds))
			wantEachBest(t, c.copies(1+c.next(300), kinds))
		}
	}
	for i := range 12 {
		b := c.copies(40000+c.next(25537), 1<<i)
		for range 20 {
			at := c.next(len(b))
			size, dist := bestOf(b, at)
			wantBest(t, b, at, size, dist)
		}
	}
}

func TestBestOfTooMany(t *testing.T) {
	for _, n := range []int{65537, 65538, 100000, 131072, 131073} {
		b := make([]byte, n)
		for _, at := range append(badPlaces(), 0, 1, 65535, n-1, n, n+1) {
			wantNoBest(t, b, at, api.ErrFull)
		}
	}
	for _, b := range [][]byte{make([]byte, 65535), make([]byte, 65536), make([]byte, 70000)[:65536]} {
		wantBest(t, b, 0, 0, 0)
		wantBest(t, b, 1, 258, 1)
		wantBest(t, b, len(b)-3, 3, 1)
		wantBest(t, b, len(b)-1, 0, 0)
	}
}

func TestBestOfNoPlace(t *testing.T) {
	for _, n := range []int{0, 1, 2, 3, 4, 255, 256, 1000, 65535, 65536} {
		b := make([]byte, n)
		for _, at := range append(badPlaces(), n, n+1, n+256, n+65536) {
			wantNoBest(t, b, at, api.ErrRange)
		}
	}
	wantNoBest(t, nil, 0, api.ErrRange)
	wantNoBest(t, nil, -1, api.ErrRange)
}

// Nothing is kept of one call for the next.
func TestBestAgain(t *testing.T) {
	b := []byte("abcdabcd")
	wantBest(t, b, 4, 4, 4)
	wantBest(t, b, 4, 4, 4)
	copy(b, "abce")
	wantBest(t, b, 4, 3, 4)
	wantBest(t, []byte("xyzabcd"), 3, 0, 0)
	if n, d, e := match.Best([]byte("abcdabcd")[4:], 0); n != 0 || d != 0 || e != api.OK {
		t.Errorf("at the first octet: %d, %d, %d", n, d, e)
	}
}
