package match_test

import (
	"bytes"
	"strings"
	"testing"

	"hamper/api"
	"hamper/match"
)

// P11.4: the tokens that Find returns expand to the octets that it was given.

// wantThereAndBack asks for the octets of their tokens, with just as much room as they need.
func wantThereAndBack(t *testing.T, b []byte) {
	t.Helper()
	l, e := match.Find(b)
	if e != api.OK {
		t.Fatalf("Find of %d octets: error %d", len(b), e)
	}
	wantExpansion(t, l, len(b), string(b))
	if len(b) > 0 {
		wantNoExpansion(t, l, len(b)-1, api.ErrBound, len(l)-1)
	}
}

func TestThereAndBack(t *testing.T) {
	for _, s := range []string{"", "a", "aaaa", "abcabcd", "Subject: one\r\n\r\ntwo two two\r\n", strings.Repeat("ab", 1000)} {
		wantThereAndBack(t, []byte(s))
	}
	for n := range 12 {
		words(n, "ab", func(b []byte) { wantThereAndBack(t, b) })
	}
	for n := range 300 {
		wantThereAndBack(t, bytes.Repeat([]byte{'x'}, n))
		wantThereAndBack(t, bytes.Repeat([]byte("abcdefg"), n)[:n])
	}
}

func TestThereAndBackOfMany(t *testing.T) {
	c := chance(6)
	for range 500 {
		wantThereAndBack(t, c.octets(c.next(2000), 1+c.next(256)))
		wantThereAndBack(t, c.copies(1+c.next(2000), 1+c.next(256)))
	}
	for _, kinds := range []int{1, 2, 3, 16, 256} {
		wantThereAndBack(t, c.octets(65536, kinds))
		wantThereAndBack(t, c.copies(65536, kinds))
		wantThereAndBack(t, c.copies(65535, kinds))
	}
	wantThereAndBack(t, plain(65536))
	wantThereAndBack(t, make([]byte, 65536))
}
