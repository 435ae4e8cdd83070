package inflate_test

import (
	"bytes"
	"compress/flate"
	"strings"
	"testing"

	"hamper/api"
	"hamper/inflate"
)

// P12.1: what another program has compressed comes back.

// wantBack asks for octets, which were compressed to others: with just as much room, whatever follows, and not with less.
func wantBack(t *testing.T, b, compressed []byte) {
	t.Helper()
	wantInflate(t, compressed, len(b), b, len(compressed))
	wantInflate(t, append(bytes.Clone(compressed), "\x07\xff"...), len(b)+1, b, len(compressed))
	wantNoInflate(t, compressed[:len(compressed)-1], len(b), api.ErrShort)
	if len(b) > 0 {
		wantNoInflate(t, compressed, len(b)-1, api.ErrBound)
	}
}

// levels are how hard the library may try.
func levels() []int {
	return []int{flate.NoCompression, flate.BestSpeed, 4, flate.DefaultCompression, flate.BestCompression, flate.HuffmanOnly}
}

// packed is octets as the library compresses them, with flushes between pieces of a size.
func packed(t *testing.T, b []byte, level, size int) []byte {
	t.Helper()
	var out bytes.Buffer
	w, err := flate.NewWriter(&out, level)
	for len(b) > size && err == nil {
		_, err = w.Write(b[:size])
		b = b[size:]
		w.Flush()
	}
	if err == nil {
		_, err = w.Write(b)
		w.Close()
	}
	if err != nil {
		t.Fatal(err)
	}
	return out.Bytes()
}

// mixed is n octets of so many kinds, many of which are copies of earlier ones.
func (c *chance) mixed(n, kinds int) []byte {
	b := []byte{byte(c.next(kinds))}
	for len(b) < n {
		if c.next(3) == 0 {
			b = append(b, copied(b, 3+c.next(300), 1+c.next(len(b)))...)
		} else {
			b = append(b, byte(c.next(kinds)))
		}
	}
	return b[:n]
}

func TestBackFromTheLibrary(t *testing.T) {
	c := chance(3)
	texts := [][]byte{
		nil, []byte("a"), []byte("abcabcabc"), bytes.Repeat([]byte{0}, 100000), bytes.Repeat([]byte("0123456789"), 9000),
		[]byte(strings.Repeat("From: joe@example.org\r\nSubject: one\r\n\r\nfour and more words, and more\r\n", 60)),
		c.octets(256), c.octets(70000), c.mixed(70000, 256), c.mixed(200000, 20), c.mixed(66000, 2),
	}
	for _, b := range texts {
		for _, level := range levels() {
			wantBack(t, b, packed(t, b, level, len(b)))
			wantBack(t, b, packed(t, b, level, 1+len(b)/5))
		}
	}
	for range 300 {
		b := c.mixed(1+c.next(3000), 1+c.next(256))
		wantBack(t, b, packed(t, b, levels()[c.next(6)], 1+c.next(3000)))
	}
}

// P12.3: what follows the last block changes nothing; there is an end to every input, with at most most octets.

// block is a whole block of any kind, with octets of few kinds and copies; after is how many octets come ahead of it.
func (c *chance) block(s stream, last, after int) (stream, int) {
	kind := c.next(3)
	if kind == 0 {
		b := string(c.octets(c.next(20)))
		return s.stored(last, b), after + len(b)
	}
	l := []token{}
	for range c.next(12) {
		if after == 0 || c.next(3) > 0 {
			l = append(l, sym(c.next(256)))
			after++
			continue
		}
		size := 3 + c.next(16)
		if c.next(4) == 0 {
			size = 3 + c.next(256)
		}
		l = append(l, back(size, 1+c.next(after)))
		after += size
	}
	l = append(l, stop())
	if kind == 1 {
		return s.fixed(last, l...), after
	}
	first, second := c.lengths(l)
	return c.own(s, last, first, second).tokens(first, second, l...), after
}

// lengths is lengths of two codes that have the symbols of tokens.
func (c *chance) lengths(l []token) ([]int, []int) {
	first, second := many(257+c.next(30), 0), many(1+c.next(30), 0)
	var firsts, seconds []int
	for _, x := range l {
		firsts = append(firsts, x.symbol)
		if x.way >= 0 {
			seconds = append(seconds, x.way)
		}
	}
	return c.spread(first, firsts, 286), c.spread(second, seconds, 30)
}

// spread is complete lengths, or one code alone, for symbols, and for some more below a bound.
func (c *chance) spread(l, symbols []int, bound int) []int {
	has := map[int]bool{}
	var used []int
	for range c.next(4) {
		symbols = append(symbols, c.next(bound))
	}
	for _, symbol := range symbols {
		for symbol >= len(l) {
			l = append(l, 0)
		}
		if !has[symbol] {
			has[symbol] = true
			used = append(used, symbol)
		}
	}
	sizes := []int{1}
	for len(sizes) < len(used) {
		if i := c.next(len(sizes)); len(sizes) == 1 || sizes[i] < 15 {
			if len(sizes) > 1 {
				sizes[i]++
			}
			sizes = append(sizes, sizes[i])
		}
	}
	for i, symbol := range used {
		l[symbol] = sizes[i]
	}
	return l
}

// own is with two lists of lengths, in which some runs are written as such.
func (c *chance) own(s stream, last int, first, second []int) stream {
	p := planOf(first, second)
	var l []step
	list := append(append([]int{}, first...), second...)
	for i := 0; i < len(list); {
		n := 1
		for i+n < len(list) && list[i+n] == list[i] {
			n++
		}
		x := step{symbol: list[i]}
		switch {
		case n < 3 || c.next(5) == 0:
			n = 1
		case list[i] == 0 && c.next(5) > 0:
			n = min(n, 138)
			x = zeros(n)
		case i > 0 && list[i-1] == list[i]:
			n = min(n, 6)
			x = repeat(n)
		default:
			n = 1
		}
		l = append(l, x)
		i += n
	}
	return s.codes(last, p.with(l...))
}

// stream is a whole stream of a few blocks.
func (c *chance) stream() stream {
	s, after := stream(""), 0
	for range c.next(3) {
		s, after = c.block(s, 0, after)
	}
	s, _ = c.block(s, 1, after)
	return s
}

// Streams of all kinds, whole and then spoilt, with much and with little room.
func TestStreamsBesideModel(t *testing.T) {
	c := chance(4)
	for range 400 {
		b := c.stream().bytes()
		out, used, e := inflated(b, 65536)
		if e != api.OK || used != len(b) {
			t.Fatalf("the model: %d, error %d", used, e)
		}
		wantInflate(t, b, len(out), out, used)
		for range 10 {
			bad := bytes.Clone(b)
			for range 1 + c.next(3) {
				bad[c.next(len(bad))] ^= 1 << c.next(8)
			}
			if c.next(4) == 0 {
				bad = append(bad[:c.next(len(bad)+1)], c.octets(c.next(9))...)
			}
			wantModel(t, bad, []int{65536, len(out), c.next(len(out) + 1)}[c.next(3)])
		}
	}
}

// The library says the same of spoilt streams, as far as it says that they are whole.
func TestStreamsBesideTheLibrary(t *testing.T) {
	c := chance(5)
	for range 2000 {
		b := packed(t, c.mixed(1+c.next(400), 1+c.next(256)), levels()[c.next(6)], 1+c.next(400))
		b[c.next(len(b))] ^= 1 << c.next(8)
		out, _, e := inflate.Inflate(b, 1<<20)
		var want bytes.Buffer
		_, err := want.ReadFrom(flate.NewReader(bytes.NewReader(b)))
		if e == api.OK && (err != nil || !bytes.Equal(want.Bytes(), out)) {
			t.Fatalf("Inflate(%x): %d octets; the library: %d octets, %v", b, len(out), want.Len(), err)
		}
	}
}

// All octets of any kind, and all inputs of two octets.
func TestAnything(t *testing.T) {
	for v := range 1 << 16 {
		b := []byte{byte(v), byte(v >> 8)}
		if v%17 == 0 || v < 1<<10 {
			wantModel(t, b, 9)
		}
		wantAtMost(t, b, 1)
	}
	c := chance(6)
	for range 2000 {
		b := c.octets(c.next(100))
		wantModel(t, b, c.next(300))
		// The heads of the kinds 1 and 2, of which more comes out than of most others.
		if len(b) > 0 {
			b[0] = b[0]&^7 | byte(2+2*c.next(2))
			wantModel(t, b, c.next(300))
		}
	}
}

// wantAtMost asks for no more octets than there may be, and for no more read than there are.
func wantAtMost(t *testing.T, b []byte, most int) {
	t.Helper()
	out, used, e := inflate.Inflate(b, most)
	if len(out) > most || used > len(b) || e == api.OK && used == 0 || e != api.OK && (out != nil || used != 0) {
		t.Fatalf("Inflate(%x, %d): %d octets, %d read, error %d", b, most, len(out), used, e)
	}
}

// Few octets may stand for very many, of which only so many are output as may be.
func TestVeryMany(t *testing.T) {
	const copies = 4000
	s := stream("").fixed(1, sym('x'))
	first, second := fixedOf()
	l := make([]token, copies)
	for i := range l {
		l[i] = back(258, 1)
	}
	b := s.tokens(first, second, append(l, stop())...).bytes()
	size := 1 + 258*copies
	wantInflate(t, b, size, bytes.Repeat([]byte("x"), size), len(b))
	for _, most := range []int{0, 1, 258, 259, 1000, size - 258, size - 1} {
		wantNoInflate(t, b, most, api.ErrBound)
	}
}

// Very many blocks without output are read to the last one.
func TestManyBlocks(t *testing.T) {
	// Each time four blocks of ten bits are five octets.
	four := stream("").fixed(0, stop()).fixed(0, stop()).fixed(0, stop()).fixed(0, stop()).bytes()
	b := append(bytes.Repeat(four, 20000), 0x4b, 0x04, 0x00)
	wantInflate(t, b, 1, []byte("a"), len(b))
	wantNoInflate(t, b, 0, api.ErrBound)
	wantNoInflate(t, b[:len(b)-3], 1, api.ErrShort)
}
