package bits_test

import (
	"bytes"
	"math"
	"slices"
	"testing"

	"hamper/api"
	"hamper/bits"
)

// written is a writer with n bits of a pattern, and its stream.
func written(t *testing.T, n int) (*bits.Writer, stream) {
	t.Helper()
	w, s := bits.New(), stream(nil)
	for i := range n {
		v := uint64(i*i/3+i) % 2
		if e := w.Put(v, 1); e != api.OK {
			t.Fatalf("Put of a bit: %d", e)
		}
		s = append(s, byte(v))
	}
	wantBits(t, w, s)
	return w, s
}

// The chapter's examples.

func TestExamples(t *testing.T) {
	w := bits.New()
	if e := w.Put(1, 1); e != api.OK {
		t.Fatalf("Put(1, 1): %d", e)
	}
	if e := w.Put(2, 2); e != api.OK {
		t.Fatalf("Put(2, 2): %d", e)
	}
	if b := w.Bytes(); !bytes.Equal(b, []byte{5}) {
		t.Fatalf("Bytes: %v; want 5", b)
	}
	if e := w.Turned(6, 3); e != api.OK {
		t.Fatalf("Turned(6, 3): %d", e)
	}
	if b := w.Bytes(); !bytes.Equal(b, []byte{29}) {
		t.Fatalf("Bytes: %v; want 29", b)
	}
	r := bits.Read([]byte{29})
	wantTake(t, r, 1, 1)
	wantTake(t, r, 2, 2)
	wantAt(t, r, 3, 8)
	wantNoTake(t, r, 9, api.ErrShort)
}

// P8.1: New.

func TestNewIsEmpty(t *testing.T) {
	w := bits.New()
	wantBits(t, w, nil)
	wantBits(t, w, nil)
}

func TestWritersAreApart(t *testing.T) {
	v, w := bits.New(), bits.New()
	v.Put(1, 3)
	wantBits(t, w, nil)
	w.Octets([]byte{9, 8})
	v.Turned(1, 7)
	wantBits(t, v, low(1, 3).then(high(1, 7)))
	wantBits(t, w, streamOf([]byte{9, 8}))
	wantBits(t, bits.New(), nil)
}

// P8.1: Put and Turned.

func TestPutByHand(t *testing.T) {
	for _, c := range []struct {
		v    uint64
		n    int
		want []byte
	}{
		{0, 0, nil},
		{0, 1, []byte{0}},
		{1, 1, []byte{1}},
		{6, 3, []byte{6}},
		{0xb1, 8, []byte{0xb1}},
		{0x1b1, 9, []byte{0xb1, 1}},
		{0x0b1, 9, []byte{0xb1, 0}},
		{0x01020304, 32, []byte{4, 3, 2, 1}},
		{1 << 31, 32, []byte{0, 0, 0, 0x80}},
		{math.MaxUint32, 32, []byte{255, 255, 255, 255}},
		{1, 32, []byte{1, 0, 0, 0}},
		{1 << 30, 31, []byte{0, 0, 0, 0x40}},
		{math.MaxInt32, 31, []byte{255, 255, 255, 127}},
	} {
		w := bits.New()
		if e := w.Put(c.v, c.n); e != api.OK || !bytes.Equal(w.Bytes(), c.want) || w.Count() != c.n {
			t.Errorf("Put(%#x, %d): %v, %d bits, %d; want %v", c.v, c.n, w.Bytes(), w.Count(), e, c.want)
		}
	}
}

func TestTurnedByHand(t *testing.T) {
	for _, c := range []struct {
		v    uint64
		n    int
		want []byte
	}{
		{0, 0, nil},
		{0, 1, []byte{0}},
		{1, 1, []byte{1}},
		{6, 3, []byte{3}},
		{1, 3, []byte{4}},
		{0xb1, 8, []byte{0x8d}},
		{0x1b1, 9, []byte{0x1b, 1}},
		{0x0b1, 9, []byte{0x1a, 1}},
		{0x01020304, 32, []byte{0x80, 0x40, 0xc0, 0x20}},
		{1 << 31, 32, []byte{1, 0, 0, 0}},
		{math.MaxUint32, 32, []byte{255, 255, 255, 255}},
		{1, 32, []byte{0, 0, 0, 0x80}},
		{1, 31, []byte{0, 0, 0, 0x40}},
		{1 << 30, 31, []byte{1, 0, 0, 0}},
		{math.MaxInt32, 31, []byte{255, 255, 255, 127}},
	} {
		w := bits.New()
		if e := w.Turned(c.v, c.n); e != api.OK || !bytes.Equal(w.Bytes(), c.want) || w.Count() != c.n {
			t.Errorf("Turned(%#x, %d): %v, %d bits, %d; want %v", c.v, c.n, w.Bytes(), w.Count(), e, c.want)
		}
	}
}

// Every number of bits from every bit of an octet on, across no, one and more boundaries.
func TestNumbersAtEveryBit(t *testing.T) {
	for before := 0; before <= 17; before++ {
		for n := 0; n <= mostBits; n++ {
			for _, v := range numbersOf(n) {
				w, s := written(t, before)
				if e := w.Put(v, n); e != api.OK {
					t.Fatalf("Put(%#x, %d) behind %d bits: %d", v, n, before, e)
				}
				s = s.then(low(v, n))
				wantBits(t, w, s)
				if e := w.Turned(v, n); e != api.OK {
					t.Fatalf("Turned(%#x, %d) behind %d bits: %d", v, n, len(s), e)
				}
				s = s.then(high(v, n))
				wantBits(t, w, s)
				w.Put(1, 1)
				wantBits(t, w, s.then(stream{1}))
			}
		}
	}
}

func TestEverySmallNumber(t *testing.T) {
	w, s := bits.New(), stream(nil)
	for n := 0; n <= 6; n++ {
		for v := uint64(0); v <= greatest(n); v++ {
			if e := w.Put(v, n); e != api.OK {
				t.Fatalf("Put(%d, %d): %d", v, n, e)
			}
			if e := w.Turned(v, n); e != api.OK {
				t.Fatalf("Turned(%d, %d): %d", v, n, e)
			}
			s = s.then(low(v, n)).then(high(v, n))
		}
	}
	wantBits(t, w, s)
}

// wantRefused asks whether Put and Turned refuse a number, and change nothing.
func wantRefused(t *testing.T, before int, v uint64, n int, want api.Errno) {
	t.Helper()
	w, s := written(t, before)
	if e := w.Put(v, n); e != want {
		t.Fatalf("Put(%#x, %d) behind %d bits: %d; want %d", v, n, before, e, want)
	}
	wantBits(t, w, s)
	if e := w.Turned(v, n); e != want {
		t.Fatalf("Turned(%#x, %d) behind %d bits: %d; want %d", v, n, before, e, want)
	}
	wantBits(t, w, s)
	w.Put(5, 3)
	w.Turned(5, 4)
	wantBits(t, w, s.then(low(5, 3)).then(high(5, 4)))
}

func TestNumberIsTooGreat(t *testing.T) {
	for _, before := range []int{0, 1, 7, 8, 13} {
		for n := 0; n <= mostBits; n++ {
			for _, v := range overOf(n) {
				wantRefused(t, before, v, n, api.ErrOver)
			}
		}
	}
}

// Numbers that don't fit are among these: the error of n is named first.
func TestBadNumberOfBits(t *testing.T) {
	for _, before := range []int{0, 1, 7, 8, 13} {
		for _, n := range badCounts() {
			for _, v := range []uint64{0, 1, 2, math.MaxUint32, 1 << 32, 1 << 33, 1 << 63, math.MaxUint64} {
				wantRefused(t, before, v, n, api.ErrArg)
			}
		}
	}
}

// P8.1: Octets.

func TestOctetsBehindBits(t *testing.T) {
	for before := 0; before <= 33; before++ {
		for _, b := range [][]byte{nil, {}, {0}, {1}, {255}, {0x80, 1}, {1, 2, 3, 4, 5}, bytes.Repeat([]byte{0xc3}, 300)} {
			w, s := written(t, before)
			w.Octets(b)
			s = s.aligned().then(streamOf(b))
			wantBits(t, w, s)
			w.Octets(b)
			s = s.then(streamOf(b))
			wantBits(t, w, s)
			w.Put(5, 3)
			w.Octets(nil)
			w.Turned(5, 4)
			wantBits(t, w, s.then(stream{1, 0, 1, 0, 0, 0, 0, 0, 0, 1, 0, 1}))
		}
	}
}

// The zeros up to the boundary are zeros though all bits around them are ones.
func TestOctetsFillWithZeros(t *testing.T) {
	for n := 1; n <= 8; n++ {
		w := bits.New()
		w.Put(greatest(n), n)
		w.Octets([]byte{255})
		if b := w.Bytes(); !bytes.Equal(b, []byte{byte(greatest(n)), 255}) || w.Count() != 16 {
			t.Errorf("Octets behind %d bits: %v, %d bits", n, b, w.Count())
		}
	}
}

// Zeros that were written and zeros that fill are told apart by Count.
func TestCountOfZeros(t *testing.T) {
	w := bits.New()
	for i := range 20 {
		if w.Count() != i || len(w.Bytes()) != (i+7)/8 {
			t.Fatalf("%d zeros: Count %d, %d octets", i, w.Count(), len(w.Bytes()))
		}
		w.Put(0, 1)
	}
	w.Put(0, 0)
	w.Turned(0, 0)
	wantBits(t, w, make(stream, 20))
	w.Octets(nil)
	wantBits(t, w, make(stream, 24))
}

// P8.1: what is handed in and out.

func TestOctetsMemory(t *testing.T) {
	for _, before := range []int{0, 3, 8} {
		w, s := written(t, before)
		whole := []byte{1, 2, 3, secret, secret}
		w.Octets(whole[:3])
		w.Put(7, 3)
		w.Octets([]byte{4})
		if !bytes.Equal(whole, []byte{1, 2, 3, secret, secret}) {
			t.Fatalf("Octets, or a call behind it, changed the argument: %v", whole)
		}
		want := s.aligned().then(streamOf([]byte{1, 2, 3, 7, 4}))
		wantBits(t, w, want)
		for i := range whole {
			whole[i] = secret
		}
		wantBits(t, w, want)
	}
}

func TestBytesMemory(t *testing.T) {
	w := bits.New()
	w.Put(0x1234, 13)
	want := low(0x1234, 13)
	first, second := w.Bytes(), w.Bytes()
	for i := range first {
		first[i] = secret
	}
	_ = append(first, secret, secret, secret)
	wantBits(t, w, want)
	if !bytes.Equal(second, want.octets()) {
		t.Errorf("two results of Bytes share memory: %v", second)
	}
	w.Put(7, 3)
	w.Octets([]byte{9})
	if !bytes.Equal(second, want.octets()) {
		t.Errorf("what was handed out changes with the writer: %v", second)
	}
	wantBits(t, w, want.then(low(7, 3)).then(streamOf([]byte{9})))
	all := second[:cap(second)]
	for i := range all {
		all[i] = secret
	}
	w.Put(1, 9)
	wantBits(t, w, want.then(low(7, 3)).then(streamOf([]byte{9})).then(low(1, 9)))
}

func TestOctetsOfItself(t *testing.T) {
	w := bits.New()
	w.Put(0x1ff, 9)
	for range 5 {
		want := streamOf(w.Bytes())
		w.Octets(w.Bytes())
		wantBits(t, w, want.then(want))
	}
}

// P8.1: all calls beside the model.

func TestWriterBesideModel(t *testing.T) {
	c := chance(1)
	for range 300 {
		w, s := bits.New(), stream(nil)
		for range 60 {
			n := c.next(mostBits + 1)
			v := c.number(n)
			switch c.next(6) {
			case 0, 1:
				if e := w.Put(v, n); e != api.OK {
					t.Fatalf("Put(%#x, %d): %d", v, n, e)
				}
				s = s.then(low(v, n))
			case 2, 3:
				if e := w.Turned(v, n); e != api.OK {
					t.Fatalf("Turned(%#x, %d): %d", v, n, e)
				}
				s = s.then(high(v, n))
			case 4:
				b := c.octets(c.next(5))
				w.Octets(b)
				s = s.aligned().then(streamOf(b))
			case 5:
				if e, f := w.Put(greatest(n)+1, n), w.Turned(v, 33+n); e != api.ErrOver || f != api.ErrArg {
					t.Fatalf("refused calls of %d bits: %d, %d", n, e, f)
				}
			}
			wantBits(t, w, s)
		}
	}
}

func TestLongStream(t *testing.T) {
	c := chance(2)
	w := bits.New()
	var s stream
	for i := range 20000 {
		n := i % (mostBits + 1)
		v := c.number(n)
		w.Put(v, n)
		s = append(s, low(v, n)...)
	}
	wantBits(t, w, s)
	b := c.octets(100000)
	w.Octets(b)
	wantBits(t, w, slices.Concat(s.aligned(), streamOf(b)))
}
