package bits_test

import (
	"bytes"
	"math"
	"testing"

	"hamper/api"
	"hamper/bits"
)

// sample are octets that read otherwise from either end.
func sample(n int) []byte {
	c := chance(77)
	return c.octets(n)
}

// readerAt is a reader of octets that has read so many bits.
func readerAt(t *testing.T, b []byte, at int) *bits.Reader {
	t.Helper()
	r := bits.Read(b)
	for range at {
		if _, e := r.Take(1); e != api.OK {
			t.Fatalf("Take of a bit: %d", e)
		}
	}
	wantAt(t, r, at, 8*len(b))
	return r
}

// P8.2: Read.

func TestReadNothing(t *testing.T) {
	for _, b := range [][]byte{nil, {}, []byte("abc")[:0]} {
		r := bits.Read(b)
		wantAt(t, r, 0, 0)
		wantTake(t, r, 0, 0)
		for n := 1; n <= mostBits; n++ {
			wantNoTake(t, r, n, api.ErrShort)
		}
		wantNoTake(t, r, -1, api.ErrArg)
		wantNoTake(t, r, 33, api.ErrArg)
		r.Align()
		wantAt(t, r, 0, 0)
		wantOctets(t, r, 0, nil)
		wantNoOctets(t, r, 1, api.ErrShort)
		wantNoOctets(t, r, -1, api.ErrArg)
	}
}

func TestReadersAreApart(t *testing.T) {
	b := []byte{1, 2, 3}
	r, s := bits.Read(b), bits.Read(b)
	wantTake(t, r, 10, 0x201)
	wantAt(t, s, 0, 24)
	wantOctets(t, s, 2, []byte{1, 2})
	wantTake(t, r, 14, 3<<6)
	wantTake(t, s, 8, 3)
}

// P8.2: Take.

func TestTakeByHand(t *testing.T) {
	for _, c := range []struct {
		b     []byte
		at, n int
		want  uint64
	}{
		{[]byte{29}, 0, 1, 1},
		{[]byte{29}, 1, 2, 2},
		{[]byte{29}, 3, 5, 3},
		{[]byte{0xb1}, 0, 8, 0xb1},
		{[]byte{0xb1}, 4, 4, 0xb},
		{[]byte{0xb1, 0x01}, 0, 9, 0x1b1},
		{[]byte{0x80, 0x01}, 7, 2, 3},
		{[]byte{0x80, 0xff, 0x01}, 7, 10, 0x3ff},
		{[]byte{4, 3, 2, 1}, 0, 32, 0x01020304},
		{[]byte{0x40, 0x30, 0x20, 0x10, 0x05}, 4, 32, 0x51020304},
		{[]byte{0xff, 0xff, 0xff, 0xff}, 0, 32, math.MaxUint32},
		{[]byte{0xff, 0xff, 0xff, 0xff}, 0, 31, math.MaxInt32},
		{[]byte{0xff, 0xff, 0xff, 0xff}, 1, 31, math.MaxInt32},
		{[]byte{0, 0, 0, 0x80}, 0, 32, 1 << 31},
		{[]byte{0, 0, 0, 0x80}, 1, 31, 1 << 30},
		{[]byte{0x80, 0, 0, 0, 0x7f}, 7, 32, 0xfe000001},
		{[]byte{255}, 8, 0, 0},
		{[]byte{255}, 3, 0, 0},
	} {
		wantTake(t, readerAt(t, c.b, c.at), c.n, c.want)
	}
}

// Every number of bits from every bit on: there, just there, and not whole any more.
func TestTakeAtEveryBit(t *testing.T) {
	b := sample(7)
	s := streamOf(b)
	for at := 0; at <= len(s); at++ {
		for n := 0; n <= mostBits; n++ {
			r := readerAt(t, b, at)
			if n <= len(s)-at {
				wantTake(t, r, n, s[at:at+n].number())
			} else {
				wantNoTake(t, r, n, api.ErrShort)
			}
		}
	}
}

// Nothing is read by a Take of too much: just what is left can be taken yet.
func TestTakeOfWhatIsLeft(t *testing.T) {
	b := sample(6)
	s := streamOf(b)
	for left := 0; left < mostBits; left++ {
		at := len(s) - left
		r := readerAt(t, b, at)
		for n := left + 1; n <= mostBits; n++ {
			wantNoTake(t, r, n, api.ErrShort)
		}
		wantTake(t, r, left, s[at:].number())
		wantAt(t, r, len(s), len(s))
		wantTake(t, r, 0, 0)
		wantNoTake(t, r, 1, api.ErrShort)
	}
}

// Each of these is more than is left too, at the end: the error of n is named first.
func TestTakeOfBadCount(t *testing.T) {
	b := sample(9)
	for _, at := range []int{0, 1, 8, 41, 71, 72} {
		r := readerAt(t, b, at)
		for _, n := range badCounts() {
			wantNoTake(t, r, n, api.ErrArg)
		}
		if at < 72 {
			wantTake(t, r, 1, uint64(streamOf(b)[at]))
		}
	}
}

// P8.2: Align.

func TestAlign(t *testing.T) {
	b := sample(4)
	s := streamOf(b)
	for at := 0; at <= len(s); at++ {
		r := readerAt(t, b, at)
		for range 3 {
			r.Align()
			wantAt(t, r, boundary(at), len(s))
		}
		if next := boundary(at); next < len(s) {
			wantTake(t, r, 5, s[next:next+5].number())
		} else {
			wantNoTake(t, r, 1, api.ErrShort)
		}
	}
}

// P8.2: Octets.

func TestOctetsAtEveryBit(t *testing.T) {
	b := sample(5)
	for at := 0; at <= 8*len(b); at++ {
		from := boundary(at) / 8
		for n := 0; n <= len(b)+1; n++ {
			r := readerAt(t, b, at)
			if from+n <= len(b) {
				wantOctets(t, r, n, b[from:from+n])
			} else {
				wantNoOctets(t, r, n, api.ErrShort)
			}
		}
	}
}

// A count in bits of some of these would wrap around to one that is there.
func TestOctetsOfTooMany(t *testing.T) {
	b := sample(3)
	for _, at := range []int{0, 1, 7, 8, 9, 17, 23, 24} {
		for _, n := range []int{4, 5, 8, 24, 255, 1 << 29, 1 << 32, 1 << 60, 1<<60 + 1, 1 << 61, 1<<61 + 1, 1<<61 + 2, 1<<62 + 1, math.MaxInt/8 + 1, math.MaxInt - 1, math.MaxInt} {
			wantNoOctets(t, readerAt(t, b, at), n, api.ErrShort)
		}
	}
}

func TestOctetsOfBadCount(t *testing.T) {
	b := sample(3)
	for _, at := range []int{0, 1, 7, 8, 9, 17, 23, 24} {
		for _, n := range []int{-1, -2, -3, -8, -1 << 32, -1 << 61, -1<<61 + 1, -1<<61 - 1, math.MinInt, math.MinInt + 1, math.MinInt / 8} {
			wantNoOctets(t, readerAt(t, b, at), n, api.ErrArg)
		}
	}
}

// Octets aligns ahead of its errors: reading goes on at the boundary, with the octets that are there.
func TestOctetsAlignsAlways(t *testing.T) {
	for n, want := range map[int]api.Errno{-1: api.ErrArg, 3: api.ErrShort, 0: api.OK} {
		r := bits.Read([]byte{255, 1, 2})
		wantTake(t, r, 3, 7)
		if b, e := r.Octets(n); len(b) != 0 || e != want {
			t.Fatalf("Octets(%d): %v, %d; want %d", n, b, e, want)
		}
		wantAt(t, r, 8, 24)
		wantOctets(t, r, 2, []byte{1, 2})
	}
}

// P8.2: what is handed in and out.

func TestReaderKeepsNothingOfTheCaller(t *testing.T) {
	b := []byte{1, 2, 3, 4, 5}
	r := bits.Read(b)
	for i := range b {
		b[i] = secret
	}
	wantTake(t, r, 12, 0x201)
	wantOctets(t, r, 2, []byte{3, 4})
	wantTake(t, r, 8, 5)
	if !bytes.Equal(b, bytes.Repeat([]byte{secret}, 5)) {
		t.Errorf("the reader changed its octets: %v", b)
	}
}

func TestReaderOfPiece(t *testing.T) {
	whole := []byte{1, 2, secret, secret}
	r := bits.Read(whole[:2])
	wantAt(t, r, 0, 16)
	wantNoTake(t, r, 17, api.ErrShort)
	wantNoOctets(t, r, 3, api.ErrShort)
	first, _ := r.Octets(2)
	_ = append(first, 9, 9)
	wantNoTake(t, r, 1, api.ErrShort)
	if !bytes.Equal(whole, []byte{1, 2, secret, secret}) {
		t.Errorf("the octets have changed: %v", whole)
	}
}

func TestOctetsAreNew(t *testing.T) {
	b := []byte{1, 2, 3, 4, 5, 6}
	r := bits.Read(b)
	first, _ := r.Octets(2)
	none, _ := r.Octets(0)
	second, _ := r.Octets(2)
	first[0], first[1] = secret, secret
	_ = append(first, secret, secret)
	_ = append(none, secret)
	if !bytes.Equal(second, []byte{3, 4}) {
		t.Errorf("two results of Octets share memory: %v", second)
	}
	all := second[:cap(second)]
	for i := range all {
		all[i] = secret
	}
	wantOctets(t, r, 2, []byte{5, 6})
	if !bytes.Equal(b, []byte{1, 2, 3, 4, 5, 6}) {
		t.Errorf("writing into the result changes the argument: %v", b)
	}
}

// P8.2: all calls beside the model.

func TestReaderBesideModel(t *testing.T) {
	c := chance(3)
	for range 500 {
		b := c.octets(c.next(60))
		s, r := streamOf(b), bits.Read(b)
		for range 40 {
			n := c.next(mostBits + 1)
			switch c.next(8) {
			case 0:
				at := r.At()
				r.Align()
				wantAt(t, r, boundary(at), len(s))
			case 1:
				n %= 6
				if from := boundary(r.At()) / 8; from+n <= len(b) {
					wantOctets(t, r, n, b[from:from+n])
				} else {
					wantNoOctets(t, r, n, api.ErrShort)
				}
			case 2:
				wantNoTake(t, r, 33+n, api.ErrArg)
			default:
				if at := r.At(); at+n <= len(s) {
					wantTake(t, r, n, s[at:at+n].number())
				} else {
					wantNoTake(t, r, n, api.ErrShort)
				}
			}
		}
	}
}
