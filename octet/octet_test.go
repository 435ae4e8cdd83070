package octet_test

import (
	"bytes"
	"math"
	"strings"
	"testing"

	"hamper/api"
	"hamper/octet"
)

const (
	mostPadded = 1 << 20
	secret     = 0xa5 // an octet that must not come through where noughts belong
)

// badWidths are no widths of a number.
func badWidths() []int {
	return []int{0, 9, -1, -8, 10, 16, 64, 256, 257, math.MinInt, math.MaxInt, math.MinInt + 1, 1 << 61, 1<<61 + 1}
}

// greatest is the greatest number that fits into width octets.
func greatest(width int) uint64 { return math.MaxUint64 >> (64 - 8*width) }

// P1.1: Put.

func TestPutOctets(t *testing.T) {
	for _, c := range []struct {
		v     uint64
		width int
		want  []byte
	}{
		{300, 2, []byte{44, 1}},
		{0, 1, []byte{0}},
		{1, 1, []byte{1}},
		{255, 1, []byte{255}},
		{256, 2, []byte{0, 1}},
		{0x0123, 3, []byte{0x23, 0x01, 0}},
		{0x01020304, 4, []byte{4, 3, 2, 1}},
		{0, 8, []byte{0, 0, 0, 0, 0, 0, 0, 0}},
		{1, 8, []byte{1, 0, 0, 0, 0, 0, 0, 0}},
		{0x8877665544332211, 8, []byte{0x11, 0x22, 0x33, 0x44, 0x55, 0x66, 0x77, 0x88}},
		{1 << 63, 8, []byte{0, 0, 0, 0, 0, 0, 0, 0x80}},
		{0x77665544332211, 7, []byte{0x11, 0x22, 0x33, 0x44, 0x55, 0x66, 0x77}},
	} {
		if b, e := octet.Put(c.v, c.width); e != api.OK || !bytes.Equal(b, c.want) {
			t.Errorf("Put(%#x, %d): %v, %d; want %v", c.v, c.width, b, e, c.want)
		}
	}
}

func TestPutJustFits(t *testing.T) {
	for width := 1; width <= 8; width++ {
		b, e := octet.Put(greatest(width), width)
		if e != api.OK || !bytes.Equal(b, bytes.Repeat([]byte{255}, width)) {
			t.Errorf("Put(%#x, %d): %v, %d", greatest(width), width, b, e)
		}
	}
}

func TestPutDoesNotFit(t *testing.T) {
	for width := 1; width < 8; width++ {
		for _, v := range []uint64{greatest(width) + 1, greatest(width) + 2, greatest(width)<<1 | 1, 1 << 63, math.MaxUint64} {
			if b, e := octet.Put(v, width); e != api.ErrOver || len(b) != 0 {
				t.Errorf("Put(%#x, %d): %v, %d; want ErrOver", v, width, b, e)
			}
		}
	}
}

func TestPutBadWidth(t *testing.T) {
	for _, width := range badWidths() {
		for _, v := range []uint64{0, 1, 256, math.MaxUint64} {
			if b, e := octet.Put(v, width); e != api.ErrArg || len(b) != 0 {
				t.Errorf("Put(%d, %d): %v, %d; want ErrArg", v, width, b, e)
			}
		}
	}
}

// P1.1: PutText.

func TestPutText(t *testing.T) {
	for _, c := range []struct{ s, head string }{
		{"", "\x00\x00"},
		{"ab", "\x02\x00"},
		{"\x00\xff\r\n", "\x04\x00"},
		{"\u00e9\u20ac", "\x05\x00"},
		{strings.Repeat("x", 255), "\xff\x00"},
		{strings.Repeat("x", 256), "\x00\x01"},
		{strings.Repeat("xyz", 21845), "\xff\xff"},
		{strings.Repeat("x", 65534), "\xfe\xff"},
	} {
		if b, e := octet.PutText(c.s); e != api.OK || string(b) != c.head+c.s {
			t.Errorf("PutText of %d octets: %d octets, %d", len(c.s), len(b), e)
		}
	}
}

func TestPutTextTooLong(t *testing.T) {
	for _, n := range []int{65536, 65537, 131072, 131073, 1 << 20} {
		if b, e := octet.PutText(strings.Repeat("x", n)); e != api.ErrOver || len(b) != 0 {
			t.Errorf("PutText of %d octets: %d octets, %d; want ErrOver", n, len(b), e)
		}
	}
}

// P1.1: Pad.

func TestPad(t *testing.T) {
	for _, c := range []struct {
		b    []byte
		n    int
		want []byte
	}{
		{[]byte{1}, 3, []byte{1, 0, 0}},
		{[]byte{1, 2, 3}, 3, []byte{1, 2, 3}},
		{[]byte{1, 2, 3}, 4, []byte{1, 2, 3, 0}},
		{nil, 2, []byte{0, 0}},
		{nil, 0, nil},
		{[]byte{}, 0, nil},
		{[]byte{9}, 1, []byte{9}},
	} {
		if b, e := octet.Pad(c.b, c.n); e != api.OK || !bytes.Equal(b, c.want) {
			t.Errorf("Pad(%v, %d): %v, %d; want %v", c.b, c.n, b, e, c.want)
		}
	}
}

func TestPadFull(t *testing.T) {
	for _, c := range []struct {
		b []byte
		n int
	}{
		{[]byte{1}, 0},
		{[]byte{0, 0, 0}, 2},
		{make([]byte, 129), 128},
		{make([]byte, mostPadded+1), mostPadded},
		{make([]byte, mostPadded+1), 0},
	} {
		if b, e := octet.Pad(c.b, c.n); e != api.ErrFull || len(b) != 0 {
			t.Errorf("Pad of %d to %d: %d octets, %d; want ErrFull", len(c.b), c.n, len(b), e)
		}
	}
}

// Each of these is too short for the octets too: the argument's error is named first.
func TestPadBadLength(t *testing.T) {
	for _, n := range []int{-1, -2, math.MinInt, mostPadded + 1, mostPadded + 2, 1 << 40, math.MaxInt} {
		for _, b := range [][]byte{nil, {1}, make([]byte, mostPadded+9)} {
			if out, e := octet.Pad(b, n); e != api.ErrArg || len(out) != 0 {
				t.Errorf("Pad of %d to %d: %d octets, %d; want ErrArg", len(b), n, len(out), e)
			}
		}
	}
}

func TestPadMost(t *testing.T) {
	b, e := octet.Pad([]byte{7, 8}, mostPadded)
	if e != api.OK || len(b) != mostPadded || b[0] != 7 || b[1] != 8 {
		t.Fatalf("Pad to 2^20: %d octets, %d", len(b), e)
	}
	if bytes.Count(b[2:], []byte{0}) != mostPadded-2 {
		t.Error("Pad to 2^20: not all the others are noughts")
	}
	full := bytes.Repeat([]byte{secret}, mostPadded)
	if b, e = octet.Pad(full, mostPadded); e != api.OK || !bytes.Equal(b, full) {
		t.Errorf("Pad of 2^20 to 2^20: %d octets, %d", len(b), e)
	}
}

// What lies behind the octets, in the memory that they are cut from, is another's.
func TestPadNewMemory(t *testing.T) {
	whole := []byte{1, 2, secret, secret, secret}
	b, e := octet.Pad(whole[:2], 4)
	if e != api.OK || !bytes.Equal(b, []byte{1, 2, 0, 0}) {
		t.Errorf("Pad of a piece: %v, %d", b, e)
	}
	if !bytes.Equal(whole, []byte{1, 2, secret, secret, secret}) {
		t.Errorf("Pad changed its argument: %v", whole)
	}
	same, _ := octet.Pad(whole[:2], 2)
	same[0] = 99
	_ = append(same, 98)
	if !bytes.Equal(whole, []byte{1, 2, secret, secret, secret}) {
		t.Errorf("the result of Pad shares memory with its argument: %v", whole)
	}
}

// P1.2: Num.

func TestNum(t *testing.T) {
	b := []byte{0x11, 0x22, 0x33, 0x44, 0x55, 0x66, 0x77, 0x88, 0x99}
	for _, c := range []struct {
		at, width int
		want      uint64
	}{
		{0, 1, 0x11},
		{0, 2, 0x2211},
		{0, 3, 0x332211},
		{0, 4, 0x44332211},
		{0, 5, 0x5544332211},
		{0, 6, 0x665544332211},
		{0, 7, 0x77665544332211},
		{0, 8, 0x8877665544332211},
		{1, 8, 0x9988776655443322},
		{8, 1, 0x99},
		{7, 2, 0x9988},
		{4, 3, 0x776655},
	} {
		if v, e := octet.Num(b, c.at, c.width); e != api.OK || v != c.want {
			t.Errorf("Num at %d, width %d: %#x, %d; want %#x", c.at, c.width, v, e, c.want)
		}
	}
	if !bytes.Equal(b, []byte{0x11, 0x22, 0x33, 0x44, 0x55, 0x66, 0x77, 0x88, 0x99}) {
		t.Errorf("Num changed its argument: %v", b)
	}
	if v, e := octet.Num(bytes.Repeat([]byte{255}, 8), 0, 8); e != api.OK || v != math.MaxUint64 {
		t.Errorf("Num of the greatest: %#x, %d", v, e)
	}
}

func TestNumShort(t *testing.T) {
	b := []byte{1, 2, 3, 4, 5, 6, 7, 8}
	for width := 1; width <= 8; width++ {
		if _, e := octet.Num(b, 8-width, width); e != api.OK {
			t.Errorf("Num at %d, width %d, the last octets: %d", 8-width, width, e)
		}
		for at := 9 - width; at <= 8; at++ {
			if v, e := octet.Num(b, at, width); e != api.ErrShort || v != 0 {
				t.Errorf("Num at %d, width %d: %d, %d; want ErrShort", at, width, v, e)
			}
		}
	}
	if v, e := octet.Num(nil, 0, 1); e != api.ErrShort || v != 0 {
		t.Errorf("Num of no octets: %d, %d; want ErrShort", v, e)
	}
}

func TestNumShortOfPiece(t *testing.T) {
	whole := []byte{1, 2, secret, secret}
	if v, e := octet.Num(whole[:2], 1, 2); e != api.ErrShort || v != 0 {
		t.Errorf("Num behind the end of a piece: %d, %d; want ErrShort", v, e)
	}
}

func TestNumRange(t *testing.T) {
	for _, at := range []int{-1, -2, math.MinInt, 4, 5, 1 << 40, math.MaxInt, math.MaxInt - 1} {
		for width := 1; width <= 8; width++ {
			if v, e := octet.Num([]byte{1, 2, 3}, at, width); e != api.ErrRange || v != 0 {
				t.Errorf("Num at %d, width %d: %d, %d; want ErrRange", at, width, v, e)
			}
		}
	}
}

// A width that may not be is named first, wherever the number is to be.
func TestNumBadWidth(t *testing.T) {
	for _, width := range badWidths() {
		for _, at := range []int{0, 1, 3, 4, -1, math.MinInt, math.MaxInt} {
			if v, e := octet.Num([]byte{1, 2, 3}, at, width); e != api.ErrArg || v != 0 {
				t.Errorf("Num at %d, width %d: %d, %d; want ErrArg", at, width, v, e)
			}
		}
	}
}

// P1.3: the reader.

// wantErr holds what a reader says of its first error against what it should.
func wantErr(t *testing.T, r *octet.Reader, e api.Errno, at int) {
	t.Helper()
	if got, place := r.Err(); got != e || place != at {
		t.Errorf("Err: %d at %d; want %d at %d", got, place, e, at)
	}
}

// wantEnd is the same of End.
func wantEnd(t *testing.T, r *octet.Reader, e api.Errno, at int) {
	t.Helper()
	if got, place := r.End(); got != e || place != at {
		t.Errorf("End: %d at %d; want %d at %d", got, place, e, at)
	}
}

// wantStuck holds that a reader whose first error is e at the offset at reads nothing any more.
func wantStuck(t *testing.T, r *octet.Reader, e api.Errno, at int) {
	t.Helper()
	for _, width := range []int{1, 0, 8, 9, 2} {
		if v := r.Num(width); v != 0 {
			t.Errorf("Num(%d) behind an error: %d", width, v)
		}
	}
	if s := r.Text(); s != "" {
		t.Errorf("Text behind an error: %q", s)
	}
	for _, n := range []int{1, 0, -1, math.MaxInt} {
		if b := r.Raw(n); len(b) != 0 {
			t.Errorf("Raw(%d) behind an error: %v", n, b)
		}
	}
	if r.At() != at {
		t.Errorf("At behind an error: %d; want %d", r.At(), at)
	}
	wantErr(t, r, e, at)
	wantEnd(t, r, e, at)
}

func TestReadOn(t *testing.T) {
	r := octet.Read([]byte("\x07\x2c\x01\x02\x00abxyz\x00\x00\x11\x22\x33\x44\x55\x66\x77\x88"))
	if r.At() != 0 {
		t.Errorf("At the beginning: %d", r.At())
	}
	if v := r.Num(1); v != 7 || r.At() != 1 {
		t.Errorf("Num(1): %d, then at %d", v, r.At())
	}
	if v := r.Num(2); v != 300 || r.At() != 3 {
		t.Errorf("Num(2): %d, then at %d", v, r.At())
	}
	if s := r.Text(); s != "ab" || r.At() != 7 {
		t.Errorf("Text: %q, then at %d", s, r.At())
	}
	if b := r.Raw(0); len(b) != 0 || r.At() != 7 {
		t.Errorf("Raw(0): %v, then at %d", b, r.At())
	}
	if b := r.Raw(3); string(b) != "xyz" || r.At() != 10 {
		t.Errorf("Raw(3): %q, then at %d", b, r.At())
	}
	if s := r.Text(); s != "" || r.At() != 12 {
		t.Errorf("Text of nothing: %q, then at %d", s, r.At())
	}
	wantErr(t, r, api.OK, 0)
	wantEnd(t, r, api.ErrExtra, 12)
	wantErr(t, r, api.OK, 0)
	if v := r.Num(8); v != 0x8877665544332211 || r.At() != 20 {
		t.Errorf("Num(8): %#x, then at %d", v, r.At())
	}
	wantErr(t, r, api.OK, 0)
	wantEnd(t, r, api.OK, 0)
}

func TestReadNothing(t *testing.T) {
	for _, b := range [][]byte{nil, {}} {
		r := octet.Read(b)
		if r == nil {
			t.Fatal("Read of nothing: no reader")
		}
		wantErr(t, r, api.OK, 0)
		wantEnd(t, r, api.OK, 0)
		if out := r.Raw(0); len(out) != 0 {
			t.Errorf("Raw(0) of nothing: %v", out)
		}
		wantEnd(t, r, api.OK, 0)
		if v := r.Num(1); v != 0 {
			t.Errorf("Num(1) of nothing: %d", v)
		}
		wantStuck(t, r, api.ErrShort, 0)
	}
}

func TestReadExample(t *testing.T) {
	r := octet.Read([]byte{44, 1, 9})
	if v := r.Num(2); v != 300 {
		t.Errorf("Num(2): %d", v)
	}
	if s := r.Text(); s != "" {
		t.Errorf("Text: %q", s)
	}
	wantStuck(t, r, api.ErrShort, 2)
}

func TestReaderNumErrors(t *testing.T) {
	for _, width := range badWidths() {
		r := octet.Read([]byte{1, 2, 3, 4, 5, 6, 7, 8, 9, 10})
		r.Num(1)
		if v := r.Num(width); v != 0 {
			t.Errorf("Num(%d): %d", width, v)
		}
		wantStuck(t, r, api.ErrArg, 1)
	}
	for width := 1; width <= 8; width++ {
		r := octet.Read([]byte{1, 2, 3, 4, 5, 6, 7, 8})
		r.Raw(9 - width)
		if v := r.Num(width); v != 0 {
			t.Errorf("Num(%d) of too little: %d", width, v)
		}
		wantStuck(t, r, api.ErrShort, 9-width)
	}
}

// A width that may not be is an error of the argument at the end too.
func TestReaderNumErrorsAtEnd(t *testing.T) {
	for _, width := range badWidths() {
		r := octet.Read([]byte{1, 2})
		r.Num(2)
		if v := r.Num(width); v != 0 {
			t.Errorf("Num(%d) at the end: %d", width, v)
		}
		wantStuck(t, r, api.ErrArg, 2)
	}
}

func TestTextNotWhole(t *testing.T) {
	for _, rest := range []string{
		"",
		"\x00",
		"\x01",
		"\x01\x00",
		"\x03\x00ab",
		"\x00\x01ab",
		"\xff\xff" + strings.Repeat("x", 65534),
	} {
		r := octet.Read([]byte("\x01\x02\x03" + rest))
		r.Raw(3)
		if s := r.Text(); s != "" {
			t.Errorf("Text of %d octets: %q", len(rest), s)
		}
		wantStuck(t, r, api.ErrShort, 3)
	}
}

func TestTextWhole(t *testing.T) {
	for _, n := range []int{0, 1, 255, 256, 65534, 65535} {
		s := strings.Repeat("y", n)
		r := octet.Read([]byte(string([]byte{byte(n), byte(n >> 8)}) + s))
		if got := r.Text(); got != s || r.At() != n+2 {
			t.Errorf("Text of %d octets: %d octets, then at %d", n, len(got), r.At())
		}
		wantEnd(t, r, api.OK, 0)
	}
}

func TestRaw(t *testing.T) {
	for n := 0; n <= 4; n++ {
		r := octet.Read([]byte("_abcd"))
		r.Num(1)
		if b := r.Raw(n); string(b) != "abcd"[:n] || r.At() != 1+n {
			t.Errorf("Raw(%d): %q, then at %d", n, b, r.At())
		}
		wantErr(t, r, api.OK, 0)
	}
}

func TestRawErrors(t *testing.T) {
	for _, c := range []struct {
		n int
		e api.Errno
	}{
		{5, api.ErrShort}, {6, api.ErrShort}, {math.MaxInt, api.ErrShort}, {math.MaxInt - 1, api.ErrShort},
		{-1, api.ErrArg}, {-2, api.ErrArg}, {math.MinInt, api.ErrArg},
	} {
		r := octet.Read([]byte("_abcd"))
		r.Num(1)
		if b := r.Raw(c.n); len(b) != 0 {
			t.Errorf("Raw(%d): %q", c.n, b)
		}
		wantStuck(t, r, c.e, 1)
	}
}

func TestRawErrorsAtEnd(t *testing.T) {
	r := octet.Read([]byte("ab"))
	r.Raw(2)
	if b := r.Raw(-1); len(b) != 0 {
		t.Errorf("Raw(-1) at the end: %v", b)
	}
	wantStuck(t, r, api.ErrArg, 2)
	r = octet.Read([]byte("ab"))
	r.Raw(2)
	if b := r.Raw(1); len(b) != 0 {
		t.Errorf("Raw(1) at the end: %v", b)
	}
	wantStuck(t, r, api.ErrShort, 2)
}

// What End tells is no error that is kept: reading goes on.
func TestEndKeepsNothing(t *testing.T) {
	r := octet.Read([]byte("\x05\x01\x00z"))
	wantEnd(t, r, api.ErrExtra, 0)
	wantErr(t, r, api.OK, 0)
	if v := r.Num(1); v != 5 {
		t.Errorf("Num(1) behind End: %d", v)
	}
	wantEnd(t, r, api.ErrExtra, 1)
	if s := r.Text(); s != "z" {
		t.Errorf("Text behind End: %q", s)
	}
	wantEnd(t, r, api.OK, 0)
}

// An error at the offset 0 is an error too, and one at the end is one though no octets are left.
func TestEndTellsTheError(t *testing.T) {
	r := octet.Read([]byte("ab"))
	r.Num(0)
	wantEnd(t, r, api.ErrArg, 0)
	r = octet.Read([]byte("ab"))
	r.Raw(2)
	r.Num(1)
	wantEnd(t, r, api.ErrShort, 2)
}

func TestReadersAreApart(t *testing.T) {
	b := []byte{1, 2, 3}
	r, s := octet.Read(b), octet.Read(b)
	r.Num(0)
	if v := s.Num(3); v != 0x030201 || r.At() != 0 || s.At() != 3 {
		t.Errorf("a second reader: %#x, at %d and %d", v, r.At(), s.At())
	}
	wantErr(t, s, api.OK, 0)
}

// A caller may change the octets while they are read, and what was read of them.
func TestReaderMemory(t *testing.T) {
	b := []byte("\x01\x01\x00zabcd")
	r := octet.Read(b)
	for i := range b {
		b[i] = secret
	}
	if v, s := r.Num(1), r.Text(); v != 1 || s != "z" {
		t.Errorf("the reader reads what the caller changed: %d, %q", v, s)
	}
	first := r.Raw(2)
	first[0] = 'X'
	_ = append(first, 'Y', 'Y')
	if second := r.Raw(2); string(second) != "cd" || string(first) != "Xb" {
		t.Errorf("what was read shares memory: %q, %q", first, second)
	}
	if !bytes.Equal(b, bytes.Repeat([]byte{secret}, len(b))) {
		t.Errorf("the reader changed its octets: %v", b)
	}
	wantEnd(t, r, api.OK, 0)
}

func TestReaderOfPiece(t *testing.T) {
	whole := []byte("ab" + strings.Repeat("\x01", 9))
	r := octet.Read(whole[:2])
	if b := r.Raw(3); len(b) != 0 {
		t.Errorf("Raw behind the end of a piece: %v", b)
	}
	wantStuck(t, r, api.ErrShort, 0)
}

// P1.4: what was encoded is decoded as it was.

// numbers are the edges of all widths, and some between.
func numbers() []uint64 {
	out := []uint64{0, 1, 2, 127, 128, 300}
	for width := 1; width <= 8; width++ {
		out = append(out, greatest(width), greatest(width)-1, greatest(width)>>1+1, greatest(width)/3)
		if width < 8 {
			out = append(out, greatest(width)+1)
		}
	}
	for i, v := 0, uint64(1); i < 200; i++ {
		v = v*6364136223846793005 + 1442695040888963407
		out = append(out, v>>(i%64))
	}
	return out
}

// around are octets that may stand before and behind.
func around() []string {
	return []string{"", "\x00", "\xff", "\x02\x00ab", "\x00\x00", strings.Repeat("\xff", 9)}
}

func TestNumbersThereAndBack(t *testing.T) {
	for _, v := range numbers() {
		for width := 1; width <= 8; width++ {
			b, e := octet.Put(v, width)
			if fits := v <= greatest(width); fits != (e == api.OK) {
				t.Fatalf("Put(%#x, %d): %d", v, width, e)
			} else if !fits {
				continue
			}
			for _, before := range around() {
				for _, behind := range around() {
					numberThereAndBack(t, v, width, before, string(b), behind)
				}
			}
		}
	}
}

func numberThereAndBack(t *testing.T, v uint64, width int, before, b, behind string) {
	t.Helper()
	all := []byte(before + b + behind)
	if got, e := octet.Num(all, len(before), width); e != api.OK || got != v {
		t.Fatalf("Num of %#x, width %d: %#x, %d", v, width, got, e)
	}
	r := octet.Read(all)
	head, got, tail := r.Raw(len(before)), r.Num(width), r.Raw(len(behind))
	if string(head) != before || got != v || string(tail) != behind {
		t.Fatalf("reading %q, %#x, %q: %q, %#x, %q", before, v, behind, head, got, tail)
	}
	wantEnd(t, r, api.OK, 0)
}

func TestTextsThereAndBack(t *testing.T) {
	every := make([]byte, 256)
	for i := range every {
		every[i] = byte(i)
	}
	for _, s := range []string{"", "a", "\x00", "\xff\xff", "ab\r\n", string(every), "\u00e9", strings.Repeat("q", 65535)} {
		b, e := octet.PutText(s)
		if e != api.OK {
			t.Fatalf("PutText of %d octets: %d", len(s), e)
		}
		for _, before := range around() {
			for _, behind := range around() {
				r := octet.Read([]byte(before + string(b) + behind))
				head, got, tail := r.Raw(len(before)), r.Text(), r.Raw(len(behind))
				if string(head) != before || got != s || string(tail) != behind {
					t.Fatalf("reading %q, a text of %d octets, %q: %q, %d octets, %q", before, len(s), behind, head, len(got), tail)
				}
				wantEnd(t, r, api.OK, 0)
			}
		}
	}
}

func TestManyThereAndBack(t *testing.T) {
	var all []byte
	for i, v := range numbers() {
		n, _ := octet.Put(v, 8)
		s, _ := octet.PutText(strings.Repeat("s", i))
		all = append(append(append(all, n...), s...), byte(i))
	}
	r := octet.Read(all)
	for i, v := range numbers() {
		if n, s, b := r.Num(8), r.Text(), r.Raw(1); n != v || s != strings.Repeat("s", i) || len(b) != 1 || b[0] != byte(i) {
			t.Fatalf("item %d: %#x, %q, %v", i, n, s, b)
		}
	}
	wantEnd(t, r, api.OK, 0)
}
