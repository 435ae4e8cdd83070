package canon_test

import (
	"strings"
	"testing"

	"hamper/api"
	"hamper/bits"
	"hamper/canon"
)

// P9.4: no code is a prefix of another one; what was written is decoded again.

// wantNoPrefix asks whether no code begins with another one.
func wantNoPrefix(t *testing.T, l []int) {
	t.Helper()
	c := codes(t, l)
	spelt := map[code]bool{}
	for symbol := range c {
		if s := spell(c[symbol]); s != "" {
			if spelt[s] {
				t.Fatalf("Codes(%v): two codes are %s", l, s)
			}
			spelt[s] = true
		}
	}
	for s := range spelt {
		for n := 1; n < len(s); n++ {
			if spelt[s[:n]] {
				t.Fatalf("Codes(%v): %s begins with the code %s", l, s, s[:n])
			}
		}
	}
}

// spell is a code's bits, which have to fit into its length.
func spell(c api.Code) code {
	s := ""
	for range c.Len {
		s = string(rune('0'+c.Bits%2)) + s
		c.Bits /= 2
	}
	if c.Bits != 0 {
		return code(strings.Repeat("x", c.Len))
	}
	return code(s)
}

// wantBack asks whether symbols that are written are read again, with a bit behind each tenth of them.
func wantBack(t *testing.T, l, symbols []int) {
	t.Helper()
	c, d, w := codes(t, l), decoder(t, l), bits.New()
	for i, symbol := range symbols {
		if e := canon.Put(w, c, symbol); e != api.OK {
			t.Fatalf("Put of %d by %v: %d", symbol, l, e)
		}
		if i%10 == 9 {
			w.Put(1, 1)
		}
	}
	r := bits.Read(w.Bytes())
	for i, symbol := range symbols {
		wantTake(t, d, r, symbol, api.OK, l[symbol])
		if i%10 == 9 {
			if v, e := r.Take(1); v != 1 || e != api.OK {
				t.Fatalf("the bit behind symbol %d by %v: %d, %d", i, l, v, e)
			}
		}
	}
	if r.At() != w.Count() {
		t.Fatalf("%d bits written, %d read", w.Count(), r.At())
	}
}

// coded is the symbols that have codes.
func coded(l []int) []int {
	var out []int
	for symbol, n := range l {
		if n > 0 {
			out = append(out, symbol)
		}
	}
	return out
}

func TestSmallListsThereAndBack(t *testing.T) {
	smallLists(func(l []int) {
		if e := checked(l); e != api.ErrOver {
			wantNoPrefix(t, l)
		}
		if opened(l) != api.OK {
			return
		}
		s := coded(l)
		wantBack(t, l, s)
		for _, symbol := range s {
			wantBack(t, l, many(17, symbol))
		}
	})
}

func TestEdgesThereAndBack(t *testing.T) {
	for _, l := range [][]int{nil, {0}, {1}, {0, 0, 1}, {1, 1}, {2, 1, 3, 3}, stairs(15), widest(), append(many(319, 0), 1)} {
		wantNoPrefix(t, l)
		wantBack(t, l, coded(l))
	}
}

func TestThereAndBack(t *testing.T) {
	c := chance(14)
	for range 300 {
		l := c.decodable()
		wantNoPrefix(t, l)
		s := coded(l)
		symbols := make([]int, c.next(400))
		for i := range symbols {
			symbols[i] = s[c.next(len(s))]
		}
		wantBack(t, l, s)
		wantBack(t, l, symbols)
	}
}

// Lengths that are incomplete have no decoder, but codes all the same, of which none begins with another one.
func TestIncompleteHasNoPrefix(t *testing.T) {
	c := chance(15)
	for range 300 {
		l := c.decodable()
		for range 1 + c.next(5) {
			l[c.next(len(l))] = 0
		}
		wantNoPrefix(t, l)
	}
}
