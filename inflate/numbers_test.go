package inflate_test

import (
	"math"
	"slices"
	"testing"

	"hamper/inflate"
)

// P12.2: the lengths of kind 1, and the symbols of lengths and distances.

func TestFixed(t *testing.T) {
	for range 2 {
		first, second := inflate.Fixed()
		wantFirst, wantSecond := fixedOf()
		if !slices.Equal(first, wantFirst) || !slices.Equal(second, wantSecond) {
			t.Fatalf("Fixed: %v, %v; want %v, %v", first, second, wantFirst, wantSecond)
		}
		// New memory: what a caller does with it is not seen in the next call, nor in Inflate.
		for i := range first {
			first[i] = 99
		}
		for i := range second {
			second[i] = 99
		}
		wantInflate(t, []byte{0x4b, 0x04, 0x00}, 1, []byte("a"), 3)
	}
}

func TestFixedSharesNothing(t *testing.T) {
	first, second := inflate.Fixed()
	_ = append(first, make([]int, 64)...)
	if _, want := fixedOf(); !slices.Equal(second, want) {
		t.Fatalf("Fixed: the second list has become %v", second)
	}
}

// wantLength asks what Length says.
func wantLength(t *testing.T, n, symbol, extra, v int) {
	t.Helper()
	if a, b, c := inflate.Length(n); a != symbol || b != extra || c != v {
		t.Fatalf("Length(%d): %d, %d, %d; want %d, %d, %d", n, a, b, c, symbol, extra, v)
	}
}

// wantWay asks what Way says.
func wantWay(t *testing.T, n, symbol, extra, v int) {
	t.Helper()
	if a, b, c := inflate.Way(n); a != symbol || b != extra || c != v {
		t.Fatalf("Way(%d): %d, %d, %d; want %d, %d, %d", n, a, b, c, symbol, extra, v)
	}
}

func TestLengthByHand(t *testing.T) {
	for _, c := range [][4]int{
		{3, 257, 0, 0}, {4, 258, 0, 0}, {9, 263, 0, 0}, {10, 264, 0, 0},
		{11, 265, 1, 0}, {12, 265, 1, 1}, {13, 266, 1, 0}, {18, 268, 1, 1},
		{19, 269, 2, 0}, {22, 269, 2, 3}, {34, 272, 2, 3}, {35, 273, 3, 0},
		{66, 276, 3, 7}, {67, 277, 4, 0}, {130, 280, 4, 15}, {131, 281, 5, 0},
		{226, 283, 5, 31}, {227, 284, 5, 0}, {256, 284, 5, 29}, {257, 284, 5, 30}, {258, 285, 0, 0},
	} {
		wantLength(t, c[0], c[1], c[2], c[3])
	}
}

func TestWayByHand(t *testing.T) {
	for _, c := range [][4]int{
		{1, 0, 0, 0}, {2, 1, 0, 0}, {3, 2, 0, 0}, {4, 3, 0, 0},
		{5, 4, 1, 0}, {6, 4, 1, 1}, {7, 5, 1, 0}, {8, 5, 1, 1},
		{9, 6, 2, 0}, {12, 6, 2, 3}, {13, 7, 2, 0}, {16, 7, 2, 3}, {17, 8, 3, 0},
		{256, 15, 6, 63}, {257, 16, 7, 0}, {8192, 25, 11, 2047}, {8193, 26, 12, 0},
		{16384, 27, 12, 4095}, {16385, 28, 13, 0}, {24576, 28, 13, 8191}, {24577, 29, 13, 0}, {32767, 29, 13, 8190}, {32768, 29, 13, 8191},
	} {
		wantWay(t, c[0], c[1], c[2], c[3])
	}
}

// Each number that the chapter's bases and extra bits give, and none twice.
func TestAllNumbers(t *testing.T) {
	lengths, extras, ways, wayExtras := basesOf()
	n := 3
	for i, least := range lengths {
		for v := 0; v < 1<<extras[i] && least+v < 258; v++ {
			wantLength(t, least+v, 257+i, extras[i], v)
			if least+v != n {
				t.Fatalf("the length %d comes behind %d", least+v, n-1)
			}
			n++
		}
	}
	wantLength(t, 258, 285, 0, 0)
	n = 1
	for i, least := range ways {
		for v := range 1 << wayExtras[i] {
			wantWay(t, least+v, i, wayExtras[i], v)
			if least+v != n {
				t.Fatalf("the distance %d comes behind %d", least+v, n-1)
			}
			n++
		}
	}
	if n != 32769 {
		t.Fatalf("the last distance is %d", n-1)
	}
}

func TestNoNumbers(t *testing.T) {
	for _, n := range []int{math.MinInt, math.MinInt + 3, -1 << 32, -1<<32 + 3, -32768, -258, -3, -2, -1, 0, 32769, 32770, 65536, 65537, math.MaxInt32, 1 << 32, 1<<32 + 1, 1<<32 + 3, 1 << 62, math.MaxInt - 1, math.MaxInt} {
		wantLength(t, n, 0, 0, 0)
		wantWay(t, n, -1, 0, 0)
	}
	for _, n := range []int{1, 2, 259, 260, 289, 290, 32768} {
		wantLength(t, n, 0, 0, 0)
	}
}
