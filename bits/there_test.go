package bits_test

import (
	"slices"
	"testing"

	"hamper/api"
	"hamper/bits"
)

// P8.3: what was written is read as it was.

// item is what is written, and how it is read: a number, one that is reversed, or octets.
type item struct {
	turned bool
	v      uint64
	n      int
	b      []byte
}

func (i item) write(t *testing.T, w *bits.Writer) {
	t.Helper()
	e := api.OK
	switch {
	case i.b != nil:
		w.Octets(i.b)
	case i.turned:
		e = w.Turned(i.v, i.n)
	default:
		e = w.Put(i.v, i.n)
	}
	if e != api.OK {
		t.Fatalf("writing %+v: %d", i, e)
	}
}

func (i item) read(t *testing.T, r *bits.Reader) {
	t.Helper()
	switch {
	case i.b != nil:
		wantOctets(t, r, len(i.b), i.b)
	case i.turned:
		wantTurned(t, r, i.v, i.n)
	default:
		wantTake(t, r, i.n, i.v)
	}
}

// wantTurned asks whether a number of n bits is next, its highest bit first.
func wantTurned(t *testing.T, r *bits.Reader, want uint64, n int) {
	t.Helper()
	v := uint64(0)
	for range n {
		b, e := r.Take(1)
		if e != api.OK {
			t.Fatalf("Take of a bit of %#x: %d", want, e)
		}
		v = 2*v + b
	}
	if v != want {
		t.Fatalf("a number of %d bits, read from its highest bit on: %#x; want %#x", n, v, want)
	}
}

// items are numbers and octets of all kinds in an order that looks like none.
func items(c *chance, many int) []item {
	var l []item
	for range many {
		n := c.next(mostBits + 1)
		switch c.next(7) {
		case 0:
			l = append(l, item{b: c.octets(c.next(6))})
		case 1, 2, 3:
			l = append(l, item{turned: true, v: c.number(n), n: n})
		default:
			l = append(l, item{v: c.number(n), n: n})
		}
	}
	return l
}

func TestThereAndBack(t *testing.T) {
	c := chance(4)
	for range 400 {
		w, l := bits.New(), items(&c, c.next(80))
		for _, i := range l {
			i.write(t, w)
		}
		r := bits.Read(slices.Concat(w.Bytes(), c.octets(c.next(3))))
		for _, i := range l {
			i.read(t, r)
		}
		if r.At() != w.Count() {
			t.Fatalf("%d bits written, %d read", w.Count(), r.At())
		}
	}
}

// Behind the last bit there are zeros up to the octet's end, and nothing more.
func TestNothingBehindTheLastBit(t *testing.T) {
	for n := 0; n <= mostBits; n++ {
		w := bits.New()
		w.Put(greatest(n), n)
		r := bits.Read(w.Bytes())
		wantTake(t, r, n, greatest(n))
		wantTake(t, r, boundary(n)-n, 0)
		wantNoTake(t, r, 1, api.ErrShort)
	}
}

func TestTurnedThereAndBack(t *testing.T) {
	for before := 0; before < 16; before++ {
		for n := 0; n <= mostBits; n++ {
			for _, v := range numbersOf(n) {
				w := bits.New()
				w.Put(greatest(before), before)
				w.Turned(v, n)
				w.Put(1, 1)
				r := bits.Read(w.Bytes())
				wantTake(t, r, before, greatest(before))
				wantTurned(t, r, v, n)
				wantTake(t, r, 1, 1)
			}
		}
	}
}

// A number that was written reversed, read at once and reversed again, is as it was.
func TestTurnedTwice(t *testing.T) {
	for n := 0; n <= mostBits; n++ {
		for _, v := range numbersOf(n) {
			w := bits.New()
			w.Turned(v, n)
			once, _ := bits.Read(w.Bytes()).Take(n)
			if want := high(v, n).number(); once != want {
				t.Fatalf("Turned(%#x, %d) reads %#x; want %#x", v, n, once, want)
			}
			w = bits.New()
			w.Turned(once, n)
			wantTake(t, bits.Read(w.Bytes()), n, v)
		}
	}
}
