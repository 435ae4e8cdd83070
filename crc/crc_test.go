package crc_test

import (
	"bytes"
	"hash/crc32"
	"math/bits"
	"testing"

	"hamper/api"
	"hamper/crc"
)

const secret = 0xa5 // an octet that belongs to another

// byBits is the checksum of octets as the chapter's words tell it, bit by bit.
func byBits(b []byte) uint32 {
	word := uint32(0xffffffff)
	for _, o := range b {
		word ^= uint32(o)
		for range 8 {
			out := word & 1
			word >>= 1
			if out == 1 {
				word ^= 0xedb88320
			}
		}
	}
	return ^word
}

// someOctets are n octets of which none follows simply from the one before it.
func someOctets(n int) []byte {
	out, v := make([]byte, n), uint64(n)+1
	for i := range out {
		v = v*6364136223846793005 + 1442695040888963407
		out[i] = byte(v >> 56)
	}
	return out
}

// samples are octets of many lengths and kinds.
func samples() [][]byte {
	out := [][]byte{nil, {}, []byte("123456789"), []byte("a"), []byte("\r\n")}
	for o := range 256 {
		out = append(out, []byte{byte(o)}, []byte{0, byte(o)}, []byte{byte(o), 255})
	}
	for n := range 40 {
		out = append(out, make([]byte, n), bytes.Repeat([]byte{255}, n), someOctets(n))
	}
	for _, n := range []int{127, 128, 129, 255, 256, 257, 1000, 4032, 65536} {
		out = append(out, make([]byte, n), bytes.Repeat([]byte{255}, n), someOctets(n))
	}
	return out
}

// P2.1: Sum.

func TestSumKnown(t *testing.T) {
	for s, want := range map[string]uint32{
		"":                 0,
		"123456789":        0xcbf43926,
		"a":                0xe8b7be43,
		"abc":              0x352441c2,
		"\x00":             0xd202ef8d,
		"\xff":             0xff000000,
		"\x00\x00\x00\x00": 0x2144df1c,
		"\xff\xff\xff\xff": 0xffffffff,
	} {
		if got := crc.Sum([]byte(s)); got != want {
			t.Errorf("Sum(%q): %08x; want %08x", s, got, want)
		}
	}
}

func TestSumOfNothing(t *testing.T) {
	if crc.Sum(nil) != 0 || crc.Sum([]byte{}) != 0 {
		t.Errorf("Sum of no octets: %08x, %08x; want 0", crc.Sum(nil), crc.Sum([]byte{}))
	}
}

func TestSum(t *testing.T) {
	for _, b := range samples() {
		before := bytes.Clone(b)
		got := crc.Sum(b)
		if want := byBits(b); got != want || want != crc32.ChecksumIEEE(b) {
			t.Errorf("Sum of %d octets: %08x; want %08x", len(b), got, want)
		}
		if !bytes.Equal(b, before) {
			t.Errorf("Sum changed its argument of %d octets", len(b))
		}
	}
}

// What lies behind the octets, in the memory that they are cut from, does not count.
func TestSumOfPiece(t *testing.T) {
	whole := []byte("123456789____")
	if got := crc.Sum(whole[:9]); got != 0xcbf43926 {
		t.Errorf("Sum of a piece: %08x", got)
	}
}

// P2.1: More.

func TestMore(t *testing.T) {
	whole := someOctets(300)
	for _, cut := range []int{0, 1, 2, 3, 4, 7, 8, 127, 128, 255, 256, 257, 299, 300} {
		got := crc.More(byBits(whole[:cut]), whole[cut:])
		if want := byBits(whole); got != want {
			t.Errorf("More behind %d octets: %08x; want %08x", cut, got, want)
		}
	}
	if got := crc.More(byBits([]byte("12345")), []byte("6789")); got != 0xcbf43926 {
		t.Errorf("More(Sum of 12345, 6789): %08x", got)
	}
}

// The sum of nothing is 0: from there on, More is Sum.
func TestMoreFromNothing(t *testing.T) {
	for _, b := range samples() {
		if got, want := crc.More(0, b), byBits(b); got != want {
			t.Errorf("More(0, %d octets): %08x; want %08x", len(b), got, want)
		}
	}
}

func TestMoreOfNothing(t *testing.T) {
	for _, sum := range []uint32{0, 1, 0x80000000, 0xcbf43926, 0xedb88320, 0xfffffffe, 0xffffffff} {
		if got := crc.More(sum, nil); got != sum {
			t.Errorf("More(%08x, nothing): %08x", sum, got)
		}
		if got := crc.More(sum, []byte{}); got != sum {
			t.Errorf("More(%08x, no octets): %08x", sum, got)
		}
	}
}

// Every number is the sum of some octets, so More goes on from each.
func TestMoreFromAnySum(t *testing.T) {
	b := someOctets(20)
	for _, sum := range []uint32{0, 1, 0x80000000, 0xcbf43926, 0xedb88320, 0xfffffffe, 0xffffffff} {
		if got, want := crc.More(sum, b), crc32.Update(sum, crc32.IEEETable, b); got != want {
			t.Errorf("More(%08x, ..): %08x; want %08x", sum, got, want)
		}
	}
}

func TestMoreChangesNothing(t *testing.T) {
	whole := someOctets(20)
	before := bytes.Clone(whole)
	crc.More(7, whole[3:9])
	if !bytes.Equal(whole, before) {
		t.Errorf("More changed its argument: %v", whole)
	}
}

// P2.1: Table.

func TestTable(t *testing.T) {
	table := crc.Table()
	for o := range 256 {
		word := uint32(o)
		for range 8 {
			if word&1 == 1 {
				word = word>>1 ^ 0xedb88320
			} else {
				word >>= 1
			}
		}
		if table[o] != word {
			t.Errorf("element %d of Table: %08x; want %08x", o, table[o], word)
		}
	}
	if table[0] != 0 || table[1] != 0x77073096 || table[128] != 0xedb88320 || table[255] != 0x2d02ef8d {
		t.Errorf("Table: %08x, %08x, %08x, %08x", table[0], table[1], table[128], table[255])
	}
}

// A caller may change what Table made: neither the next table nor a sum hangs on it.
func TestTableIsNew(t *testing.T) {
	table := crc.Table()
	before := table
	clear(table[:])
	if crc.Table() != before {
		t.Error("Table is another one after a change of its result")
	}
	if got := crc.Sum([]byte("123456789")); got != 0xcbf43926 {
		t.Errorf("Sum behind a change of a table: %08x", got)
	}
}

// P2.2: Seal.

func TestSeal(t *testing.T) {
	for _, c := range []struct{ s, want string }{
		{"", "\x00\x00\x00\x00"},
		{"123456789", "123456789\x26\x39\xf4\xcb"},
		{"a", "a\x43\xbe\xb7\xe8"},
		{"\x00\x00\x00\x00", "\x00\x00\x00\x00\x1c\xdf\x44\x21"},
		{"\xff", "\xff\x00\x00\x00\xff"},
	} {
		if got := crc.Seal([]byte(c.s)); string(got) != c.want {
			t.Errorf("Seal(%q): %q; want %q", c.s, got, c.want)
		}
	}
	if got := crc.Seal(nil); string(got) != "\x00\x00\x00\x00" {
		t.Errorf("Seal(nil): %q", got)
	}
}

func TestSealAndOpen(t *testing.T) {
	for _, b := range samples() {
		sum := byBits(b)
		sealed := crc.Seal(b)
		want := append(bytes.Clone(b), byte(sum), byte(sum>>8), byte(sum>>16), byte(sum>>24))
		if !bytes.Equal(sealed, want) {
			t.Fatalf("Seal of %d octets: %d octets, not those that belong there", len(b), len(sealed))
		}
		if got, e := crc.Open(sealed); e != api.OK || !bytes.Equal(got, b) {
			t.Fatalf("Open of %d sealed octets: %d octets, %d", len(b), len(got), e)
		}
	}
}

// What was sealed may be sealed again, as often as one likes.
func TestSealTwice(t *testing.T) {
	b := someOctets(9)
	twice := crc.Seal(crc.Seal(b))
	once, e := crc.Open(twice)
	if e != api.OK || !bytes.Equal(once, crc.Seal(b)) {
		t.Fatalf("Open of what is sealed twice: %v, %d", once, e)
	}
	if got, e := crc.Open(once); e != api.OK || !bytes.Equal(got, b) {
		t.Errorf("Open of what is left: %v, %d", got, e)
	}
}

func TestSealNewMemory(t *testing.T) {
	whole := []byte{1, 2, secret, secret, secret, secret, secret}
	sealed := crc.Seal(whole[:2])
	again := crc.Seal(whole[:2])
	clear(sealed)
	if !bytes.Equal(whole, []byte{1, 2, secret, secret, secret, secret, secret}) {
		t.Errorf("Seal wrote into the memory of its argument: %v", whole)
	}
	whole[0] = 99
	if got, e := crc.Open(again); e != api.OK || !bytes.Equal(got, []byte{1, 2}) {
		t.Errorf("the result of Seal shares memory: %v, %d", got, e)
	}
}

// P2.2: Open.

// wantRefused holds that Open refuses octets with the error e, and leaves them as they are.
func wantRefused(t *testing.T, b []byte, e api.Errno) {
	t.Helper()
	before := bytes.Clone(b)
	if got, is := crc.Open(b); is != e || len(got) != 0 {
		t.Fatalf("Open(%v): %v, %d; want %d", before, got, is, e)
	}
	if !bytes.Equal(b, before) {
		t.Fatalf("Open changed its argument %v", before)
	}
}

func TestOpenShort(t *testing.T) {
	wantRefused(t, nil, api.ErrShort)
	for n := range 4 {
		wantRefused(t, make([]byte, n), api.ErrShort)
		wantRefused(t, bytes.Repeat([]byte{255}, n), api.ErrShort)
		wantRefused(t, someOctets(n), api.ErrShort)
		// The checksum of no octets would be whole in the memory behind them.
		wantRefused(t, make([]byte, 8)[:n], api.ErrShort)
	}
}

func TestOpenFour(t *testing.T) {
	if got, e := crc.Open([]byte{0, 0, 0, 0}); e != api.OK || len(got) != 0 {
		t.Errorf("Open of no octets, sealed: %v, %d", got, e)
	}
	for i := range 4 {
		for o := 1; o < 256; o++ {
			b := make([]byte, 4)
			b[i] = byte(o)
			wantRefused(t, b, api.ErrSum)
		}
	}
	wantRefused(t, []byte{255, 255, 255, 255}, api.ErrSum)
}

func TestOpenWrongSum(t *testing.T) {
	for _, s := range []string{
		"123456789\xcb\xf4\x39\x26",     // the most significant octet first
		"123456789\xd9\xc6\x0b\x34",     // not inverted
		"123456789\x00\x00\x00\x00",     // none
		"\x26\x39\xf4\xcb123456789",     // ahead of the octets
		"123456789\x26\x39\xf4\xcb\x00", // one more
		"123456789\x26\x39\xf4",         // one less
		"23456789\x26\x39\xf4\xcb",      // the sum of others
		"12345678\x26\x39\xf4\xcb",
		"213456789\x26\x39\xf4\xcb",
		"\x00123456789\x26\x39\xf4\xcb",
	} {
		wantRefused(t, []byte(s), api.ErrSum)
	}
}

func TestOpenNewMemory(t *testing.T) {
	sealed := crc.Seal([]byte("abc"))
	before := bytes.Clone(sealed)
	got, _ := crc.Open(sealed)
	got[0] = secret
	_ = append(got, secret, secret, secret, secret)
	if !bytes.Equal(sealed, before) {
		t.Errorf("the result of Open shares memory with its argument: %v", sealed)
	}
	other, _ := crc.Open(sealed)
	clear(sealed)
	if string(other) != "abc" {
		t.Errorf("the result of Open changes with its argument: %q", other)
	}
}

// P2.3: in whatever pieces octets come, More gives their checksum.

// inPieces is the sum of octets that come in pieces of the lengths, again and again from the first one on.
func inPieces(b []byte, lengths []int) uint32 {
	sum := uint32(0)
	for i := 0; len(b) > 0; i++ {
		n := min(lengths[i%len(lengths)], len(b))
		sum = crc.More(sum, b[:n])
		b = b[n:]
	}
	return crc.More(sum, b)
}

func TestPieces(t *testing.T) {
	for _, b := range [][]byte{nil, []byte("123456789"), make([]byte, 64), someOctets(1000), bytes.Repeat([]byte{255}, 257)} {
		want := byBits(b)
		for _, lengths := range [][]int{{1}, {2}, {3}, {0, 1}, {1, 0, 0}, {0, 0, 0, 5}, {4, 1}, {7, 0, 64}, {128}, {255, 1}, {256}, {1000}, {0, 999, 0}} {
			if got := inPieces(b, lengths); got != want {
				t.Errorf("%d octets in pieces of %v: %08x; want %08x", len(b), lengths, got, want)
			}
		}
	}
}

// Each way to divide nine octets: a bit says of each of the eight gaps whether a piece ends there, and empty ones may stand between.
func TestEveryDivision(t *testing.T) {
	b := []byte("123456789")
	for gaps := range 1 << 8 {
		sum, from := uint32(0), 0
		for i := 1; i <= len(b); i++ {
			if i == len(b) || gaps>>(i-1)&1 == 1 {
				sum = crc.More(crc.More(sum, b[from:from]), b[from:i])
				from = i
			}
		}
		if sum != 0xcbf43926 {
			t.Errorf("division %08b: %08x", gaps, sum)
		}
	}
}

// P2.3: sealed octets in which 1 to 32 consecutive bits are changed are refused.

// flip changes the bits from the bit at on, in the bit order, where the pattern has ones.
func flip(b []byte, at int, pattern uint32) {
	for ; pattern != 0; pattern >>= 1 {
		if pattern&1 == 1 {
			b[at/8] ^= 1 << (at % 8)
		}
		at++
	}
}

// runs are changes of exactly width bits: both outer ones change, and those between in many ways (in all ways, if these are few).
func runs(width int) []uint32 {
	if width == 1 {
		return []uint32{1}
	}
	outer := uint32(1)<<(width-1) | 1
	if width <= 7 {
		var out []uint32
		for inner := range uint32(1) << (width - 2) {
			out = append(out, outer|inner<<1)
		}
		return out
	}
	every := uint32(1<<width - 1)
	out := []uint32{outer, every, outer | every&0x55555555, outer | every&0xaaaaaaaa, outer | every&0xedb88320}
	v := uint64(width)
	for range 6 {
		v = v*6364136223846793005 + 1442695040888963407
		out = append(out, outer|every&uint32(v>>32))
	}
	return out
}

func TestRunsAreRefused(t *testing.T) {
	for _, b := range [][]byte{nil, {0}, {255}, []byte("123456789"), make([]byte, 12), someOctets(17)} {
		sealed := crc.Seal(b)
		for width := 1; width <= 32; width++ {
			for _, pattern := range runs(width) {
				for at := 0; at+width <= 8*len(sealed); at++ {
					changed := bytes.Clone(sealed)
					flip(changed, at, pattern)
					if got, e := crc.Open(changed); e != api.ErrSum || len(got) != 0 {
						t.Fatalf("Seal(%v), %d bits from the bit %d on changed by %x: %v, %d", b, width, at, pattern, got, e)
					}
				}
			}
		}
	}
}

// In a sector, where most runs lie far from the checksum.
func TestRunsInSector(t *testing.T) {
	sealed := crc.Seal(someOctets(124))
	for _, pattern := range []uint32{1, 3, 0xff, 0x1ff, 0x80000001, 0xffffffff, 0xdb710641} {
		for at := 0; at+bits.Len32(pattern) <= 8*len(sealed); at++ {
			changed := bytes.Clone(sealed)
			flip(changed, at, pattern)
			wantRefused(t, changed, api.ErrSum)
		}
	}
}

// syndromes are, of each bit of n sealed octets, in the bit order, what its change alone changes: the sum as it is against the sum that stands there.
func syndromes(n int) []uint32 {
	var out []uint32
	for at := range 8 * (n + 4) {
		b := make([]byte, n+4)
		flip(b, at, 1)
		sum := crc.Sum(b[:n]) ^ crc.Sum(make([]byte, n))
		out = append(out, sum^(uint32(b[n])|uint32(b[n+1])<<8|uint32(b[n+2])<<16|uint32(b[n+3])<<24))
	}
	return out
}

// rank is how many of the words no sum (without carries) of the others gives.
func rank(words []uint32) int {
	var lead [32]uint32
	many := 0
	for _, word := range words {
		for bit := 31; bit >= 0 && word != 0; bit-- {
			if word>>bit&1 == 0 {
				continue
			}
			if lead[bit] == 0 {
				lead[bit] = word
				many++
				break
			}
			word ^= lead[bit]
		}
	}
	return many
}

// Any way of changing a run is a sum of its bits' syndromes; if no 32 neighbours give 0 among them, none of their 2^32 - 1 ways is taken.
func TestRunsInAnyWay(t *testing.T) {
	for _, n := range []int{0, 1, 9, 124, 600} {
		all := syndromes(n)
		for at := 0; at+32 <= len(all); at++ {
			if got := rank(all[at : at+32]); got != 32 {
				t.Fatalf("%d octets, sealed: 32 bits from the bit %d on can be changed so that it is not seen: rank %d", n, at, got)
			}
		}
	}
}

// What TestRunsInAnyWay leans on: changes add up, whatever octets they are made in.
func TestChangesAddUp(t *testing.T) {
	for n := range 40 {
		plain, first, second, both := someOctets(n), someOctets(n), someOctets(n), someOctets(n)
		for i, change := range someOctets(n + 40)[:n] {
			first[i] ^= change
			second[i] ^= byte(37 * i)
			both[i] ^= change ^ byte(37*i)
		}
		if crc.Sum(both) != crc.Sum(plain)^crc.Sum(first)^crc.Sum(second) {
			t.Errorf("%d octets: changes do not add up", n)
		}
	}
}
