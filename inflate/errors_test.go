package inflate_test

import (
	"bytes"
	"math"
	"slices"
	"strings"
	"testing"

	"hamper/api"
)

// P12.1: what is refused, and which error comes first.

// wantNoEnding asks for an error of a stream that ends with an octet, and also of those that end later, unless its end is the error.
func wantNoEnding(t *testing.T, s stream, want api.Errno) {
	t.Helper()
	b := s.ending()
	wantNoInflate(t, b, 65536, want)
	if want == api.ErrShort {
		return
	}
	for _, behind := range []string{"\x00", "\xff", "\x00\x00\x00\x00\x00", "\xff\xff\xff\xff\xff"} {
		wantNoInflate(t, append(bytes.Clone(b), behind...), 65536, want)
	}
	// One bit fewer, and nothing is wrong yet but the end.
	if len(s) > 0 {
		wantNoInflate(t, s[:len(s)-1].ending(), 65536, api.ErrShort)
	}
}

// compressed is whole streams of the kinds 1 and 2.
func compressed() []stream {
	return []stream{
		stream("").fixed(1, stop()),
		stream("").fixed(1, append(lits("ab\xf0\xff"), back(3, 2), back(20, 5), stop())...),
		stream("").own(1, someFirst(), []int{1, 1}, append(lits("ab"), back(3, 2), back(4, 1), stop())...),
		stream("").codes(1, sparse()).tokens(someFirst(), []int{1, 1}, append(lits("ab"), back(3, 2), stop())...),
		stream("").fixed(0, append(lits("abcd"), stop())...).codes(0, sparse()).tokens(someFirst(), []int{1, 1}, sym('a'), stop()).fixed(1, back(258, 5), stop()),
	}
}

// kinds is whole streams of all kinds.
func kinds() []stream {
	return append(compressed(),
		stream("").stored(1, ""),
		stream("").stored(1, "abc"),
		stream("").stored(0, "abcd").fixed(0, back(4, 4), stop()).codes(0, sparse()).tokens(someFirst(), []int{1, 1}, sym('a'), back(4, 2), stop()).stored(1, "x"))
}

func TestBelowNothing(t *testing.T) {
	for _, most := range []int{-1, -2, -65536, math.MinInt32, -1 << 32, math.MinInt, math.MinInt + 1} {
		for _, s := range kinds() {
			wantNoInflate(t, s.bytes(), most, api.ErrArg)
		}
		for _, s := range []string{"", "\x07", "\x03", "\x03\x02", "\xff\xff\xff"} {
			wantNoInflate(t, []byte(s), most, api.ErrArg)
		}
	}
}

// An input that ends at any octet, or at any bit, ahead of where it should.
func TestTooShort(t *testing.T) {
	wantNoInflate(t, nil, 0, api.ErrShort)
	wantNoInflate(t, []byte{}, math.MaxInt, api.ErrShort)
	for _, s := range kinds() {
		b := s.bytes()
		for n := range b {
			wantNoInflate(t, b[:n], 65536, api.ErrShort)
			wantNoInflate(t, b[:n:n], math.MaxInt, api.ErrShort)
		}
	}
	for _, s := range compressed() {
		for n := range s {
			wantNoInflate(t, s[:n].ending(), 65536, api.ErrShort)
		}
	}
	// Without a last block.
	wantNoInflate(t, stream("").stored(0, "abc").bytes(), 65536, api.ErrShort)
	wantNoEnding(t, stream("").fixed(0, stop()), api.ErrShort)
	wantNoEnding(t, stream("").own(0, onlyStop(), []int{0}, stop()), api.ErrShort)
}

func TestNoKind(t *testing.T) {
	for last := range 2 {
		wantNoEnding(t, stream("").head(last, 3), api.ErrForm)
		wantNoEnding(t, stream("").fixed(0, sym('a'), stop()).head(last, 3), api.ErrForm)
		wantNoEnding(t, stream("").own(0, someFirst(), []int{1}, sym('a'), stop()).head(last, 3), api.ErrForm)
		wantNoInflate(t, stream("").stored(0, "abc").head(last, 3).bytes(), 3, api.ErrForm)
		wantNoInflate(t, stream("").stored(0, "abc").head(last, 3).bytes(), 2, api.ErrBound)
	}
}

// A second number that is the first one's complement but for one bit, or the first one itself.
func TestNoComplement(t *testing.T) {
	for _, size := range []int{0, 1, 3, 255, 256, 65535} {
		octets := strings.Repeat("x", size)
		b := stream("").stored(1, octets).bytes()
		for bit := range 16 {
			bad := bytes.Clone(b)
			bad[3+bit/8] ^= 1 << (bit % 8)
			wantNoInflate(t, bad, 65536, api.ErrForm)
			wantNoInflate(t, bad, 0, api.ErrForm)
			// Ahead of the octets, which are not there.
			wantNoInflate(t, bad[:5], 0, api.ErrForm)
			wantNoInflate(t, bad[:4], 0, api.ErrShort)
			// The same of the first number.
			bad[3+bit/8] ^= 1 << (bit % 8)
			bad[1+bit/8] ^= 1 << (bit % 8)
			wantNoInflate(t, bad, 65536, api.ErrForm)
		}
		copy(b[3:5], b[1:3])
		wantNoInflate(t, b, 65536, api.ErrForm)
	}
}

// More lengths than 286 and 30 are an error once all three numbers are read, and not before.
func TestTooManyLengths(t *testing.T) {
	for firsts := range 32 {
		for _, seconds := range []int{0, 1, 15, 16, 28, 29, 30, 31} {
			s := stream("").head(1, 2).num(firsts, 5).num(seconds, 5)
			wantNoInflate(t, s.ending(), 65536, api.ErrShort)
			for _, thirds := range []int{0, 15} {
				want := api.ErrShort
				if firsts > 286-257 || seconds > 30-1 {
					want = api.ErrForm
				}
				wantNoEnding(t, s.num(thirds, 4), want)
			}
		}
	}
	// Ahead of lengths of the third code that are not decodable.
	wantNoEnding(t, stream("").head(1, 2).num(30, 5).num(0, 5).num(15, 4), api.ErrForm)
	wantNoEnding(t, stream("").head(1, 2).num(0, 5).num(30, 5).num(15, 4), api.ErrForm)
}

// notDecodable is lengths, at most 19 of them, none above 7, that have no decoder.
func notDecodable() [][]int {
	return [][]int{{1, 1, 1}, {1, 1, 7}, {2}, {7}, {0, 3}, {1, 2}, {2, 2}, {2, 2, 2}, {1, 2, 3}, {1, 2, 2, 7}, {1, 2, 3, 4, 5, 6, 7}, {7, 7}, {3, 3, 3, 3, 3, 3, 3}, many(8, 7), {1, 0, 0, 2}, many(19, 1), many(19, 7), many(15, 4), many(17, 4)}
}

// The third code has to be decodable, once all of its lengths are there.
func TestThirdCodeThatIsNone(t *testing.T) {
	for _, l := range notDecodable() {
		for _, thirds := range []int{19, 18} {
			third := append(slices.Clone(l), many(19-len(l), 0)...)
			p := plan{257, 1, thirds, third, nil}
			if thirds == 18 && third[15] > 0 {
				continue
			}
			s := stream("").head(1, 2).num(0, 5).num(0, 5).num(thirds-4, 4)
			for _, symbol := range thirdOrder()[:thirds] {
				s = s.num(p.third[symbol], 3)
			}
			wantNoEnding(t, s, api.ErrCode)
		}
	}
	// Without any code there is nothing to read, even at the end.
	wantModelOf(t, stream("").codes(1, plan{257, 1, 4, many(19, 0), nil}), 9)
	wantNoInflate(t, stream("").codes(1, plan{257, 1, 4, many(19, 0), nil}).ending(), 9, api.ErrCode)
	// One code alone: its bit is 0.
	wantNoEnding(t, stream("").codes(1, plan{257, 1, 4, append(many(18, 0), 1), nil})+"1", api.ErrCode)
	wantNoEnding(t, stream("").codes(1, plan{257, 1, 4, append(many(18, 0), 1), nil}), api.ErrShort)
	wantNoEnding(t, stream("").codes(1, plan{257, 1, 18, append([]int{0, 1}, many(17, 0)...), nil}).num(0, 258), api.ErrCode)
}

// The first and the second code have to be decodable, once all of their lengths are there, and the first one needs an end.
func TestCodesThatAreNone(t *testing.T) {
	for _, l := range append(notDecodable(), many(31, 5), many(33, 5), append(many(2, 2), many(20, 15)...)) {
		first := append(many(256, 0), l...)
		if len(first) <= 286 {
			wantNoEnding(t, stream("").codes(1, planOf(first, []int{1})), api.ErrCode)
			wantNoEnding(t, stream("").codes(1, planOf(first, many(30, 0))), api.ErrCode)
		}
		first = append(slices.Clone(l), many(257-len(l), 0)...)
		wantNoEnding(t, stream("").codes(1, planOf(first, []int{1})), api.ErrCode)
		first[256] = 2
		wantNoEnding(t, stream("").codes(1, planOf(first, []int{1})), errOf(first))
		if len(l) <= 30 {
			wantNoEnding(t, stream("").codes(1, planOf(someFirst(), l)), api.ErrCode)
			wantNoEnding(t, stream("").codes(1, planOf(onlyStop(), l)), api.ErrCode)
			wantNoEnding(t, stream("").codes(1, planOf(many(257, 1), l)), api.ErrCode)
		}
	}
	for _, first := range [][]int{many(257, 0), many(286, 0), append([]int{1, 1}, many(255, 0)...), append([]int{1}, many(284, 0)...), append(many(256, 8), 0), append(many(257, 0), 1, 1), append(many(257, 0), 1)} {
		wantNoEnding(t, stream("").codes(1, planOf(first, []int{0})), api.ErrCode)
		wantNoEnding(t, stream("").codes(1, planOf(first, []int{1, 1})), api.ErrCode)
	}
}

// errOf is what is wrong with a first code with an end and nothing behind it.
func errOf(first []int) api.Errno {
	if decodable(first) {
		return api.ErrShort
	}
	return api.ErrCode
}

// 16 at the beginning is an error by itself, whatever its extra bits.
func TestNothingToRepeat(t *testing.T) {
	p := planOf(onlyStop(), []int{0})
	wantNoEnding(t, stream("").codes(1, p.with(step{16, ""})), api.ErrCode)
	for n := 3; n <= 6; n++ {
		s := stream("").codes(1, p.with(repeat(n), zeros(138), zeros(115)))
		wantNoInflate(t, s.ending(), 65536, api.ErrCode)
	}
	p.third = append(many(16, 0), 1, 0, 0)
	wantNoEnding(t, stream("").codes(1, p.with(step{16, ""})), api.ErrCode)
}

// 286 and 287 as a length, 30 and 31 as a distance are errors by themselves.
func TestSymbolsThatAreNone(t *testing.T) {
	for symbol := 286; symbol <= 287; symbol++ {
		wantNoEnding(t, stream("").fixed(1, sym(symbol)), api.ErrCode)
		wantNoEnding(t, stream("").fixed(1, sym('a'), back(3, 1), sym(symbol)), api.ErrCode)
	}
	for way := 30; way <= 31; way++ {
		for _, c := range []token{{257, "", way, ""}, {285, "", way, ""}, {284, "11111", way, ""}} {
			// Ahead of ErrDist and ErrBound.
			wantNoEnding(t, stream("").fixed(1, c), api.ErrCode)
			s := stream("").fixed(1, sym('a'), c)
			wantNoEnding(t, s, api.ErrCode)
			wantNoInflate(t, s.ending(), 1, api.ErrCode)
			wantNoInflate(t, s.ending(), 0, api.ErrBound)
		}
	}
}

// A length whose block has no code of distances.
func TestNoDistances(t *testing.T) {
	for _, second := range [][]int{{0}, many(30, 0)} {
		s := stream("").own(1, someFirst(), second, append(lits("ab"), sym(257))...)
		wantNoInflate(t, s.ending(), 65536, api.ErrCode)
		wantNoInflate(t, append(s.ending(), 0, 0, 0), 65536, api.ErrCode)
		wantStream(t, stream("").own(1, someFirst(), second, append(lits("ab"), stop())...), "ab")
	}
}

// A distance may reach the first octet, and no farther; that is known once its extra bits are read.
func TestTooFarBack(t *testing.T) {
	for n := range 28 {
		for _, dist := range []int{1, 2, 3, 4, 5, 6, 7, 8, 9, 12, 13, 16, 17, 24, 25, 32, 33} {
			s := stream("").fixed(1, append(lits(strings.Repeat("a", n)), back(3, dist))...)
			if dist > n {
				wantNoEnding(t, s, api.ErrDist)
				wantNoInflate(t, s.ending(), n, api.ErrDist)
			} else {
				wantNoEnding(t, s, api.ErrShort)
				wantNoInflate(t, s.ending(), n, api.ErrBound)
			}
		}
	}
	for _, n := range []int{24576, 32766, 32767} {
		s := stream("").stored(0, strings.Repeat("x", n)).fixed(1, back(3, n+1), stop())
		wantNoInflate(t, s.bytes(), 65536, api.ErrDist)
		s = stream("").stored(0, strings.Repeat("x", n)).fixed(1, back(3, n), stop())
		wantStream(t, s, strings.Repeat("x", n+3))
	}
	wantNoInflate(t, stream("").fixed(1, sym('a'), back(258, 32768), stop()).bytes(), 65536, api.ErrDist)
	// Ahead of what is wrong behind it.
	wantNoEnding(t, stream("").fixed(1, back(3, 1)), api.ErrDist)
	wantNoInflate(t, stream("").fixed(0, back(3, 1), stop()).head(1, 3).bytes(), 65536, api.ErrDist)
}

// As many octets as there may be, and one fewer.
func TestTooMuch(t *testing.T) {
	for _, s := range kinds() {
		out, used, e := inflated(s.bytes(), 65536)
		if e != api.OK {
			t.Fatalf("the model: %d", e)
		}
		for most := range out {
			wantNoInflate(t, s.bytes(), most, api.ErrBound)
		}
		wantInflate(t, s.bytes(), len(out), out, used)
	}
	// An octet, a copy and a stored block that would be one too many; what is wrong behind them comes too late.
	for _, n := range []int{0, 1, 2, 3, 4, 31, 32, 255, 256, 257, 258, 259, 1000} {
		x := lits(strings.Repeat("a", n))
		wantNoInflate(t, stream("").fixed(1, append(x, sym('b'))...).ending(), n, api.ErrBound)
		wantNoInflate(t, stream("").fixed(1, append(x, sym('b'), sym(286))...).ending(), n, api.ErrBound)
		wantNoInflate(t, stream("").fixed(1, append(x, sym('b'), sym(286))...).ending(), n+1, api.ErrCode)
		if n >= 1 {
			s := stream("").fixed(1, append(x, back(258, n))...)
			wantNoInflate(t, s.ending(), n, api.ErrBound)
			wantNoInflate(t, s.ending(), n+257, api.ErrBound)
			wantNoInflate(t, s.ending(), n+258, api.ErrShort)
			// The length alone says nothing yet.
			wantNoInflate(t, s[:len(s)-1].ending(), n, api.ErrShort)
		}
	}
}

// Of a stored block ErrShort comes ahead of ErrBound.
func TestStoredTooShortAndTooMuch(t *testing.T) {
	for _, n := range []int{1, 2, 3, 256, 65535} {
		b := stream("").stored(0, strings.Repeat("x", n)).bytes()
		for most := max(0, n-3); most <= n; most++ {
			wantNoInflate(t, b[:len(b)-1], most, api.ErrShort)
			wantNoInflate(t, b[:5], most, api.ErrShort)
		}
		wantNoInflate(t, b, n-1, api.ErrBound)
		wantNoInflate(t, b, n, api.ErrShort)
		wantNoInflate(t, append(bytes.Clone(b), 7), n-1, api.ErrBound)
		wantNoInflate(t, append(bytes.Clone(b), 7), n, api.ErrForm)
	}
}
