package inflate

import (
	"slices"

	"hamper/api"
	"hamper/canon"
)

// The most lengths of the first and of the second code that may be transmitted.
const (
	mostFirst  = 286
	mostSecond = 30
)

// The symbols of the third code that are no lengths.
const (
	repeatLast  = 16
	shortZeros  = 17
	longZeros   = 18
	thirdLength = 19
)

// codes is the code of octets and lengths, and the code of distances.
type codes struct{ first, second *canon.Decoder }

// decoder is a decoder of lengths that were read.
func decoder(l []int) *canon.Decoder {
	d, e := canon.New(l)
	if e != api.OK {
		panic(api.ErrCode)
	}
	return d
}

// Fixed is the lengths of kind 1.
func Fixed() ([]int, []int) {
	first := slices.Concat(
		slices.Repeat([]int{8}, 144),
		slices.Repeat([]int{9}, 112),
		slices.Repeat([]int{7}, 24),
		slices.Repeat([]int{8}, 8))
	return first, slices.Repeat([]int{5}, 32)
}

// fixedCodes is the codes of kind 1.
func fixedCodes() codes {
	first, second := Fixed()
	return codes{decoder(first), decoder(second)}
}

// transmitted reads the codes of a block of kind 2.
func (f *inflater) transmitted() codes {
	first, second, third := 257+f.take(5), 1+f.take(5), 4+f.take(4)
	if first > mostFirst || second > mostSecond {
		panic(api.ErrForm)
	}
	l := f.codeLengths(decoder(f.thirdLengths(third)), first+second)
	if l[end] == 0 {
		panic(api.ErrCode)
	}
	return codes{decoder(l[:first]), decoder(l[first:])}
}

// thirdLengths reads so many lengths of the third code.
func (f *inflater) thirdLengths(n int) []int {
	order := [thirdLength]int{16, 17, 18, 0, 8, 7, 9, 6, 10, 5, 11, 4, 12, 3, 13, 2, 14, 1, 15}
	l := make([]int, thirdLength)
	for _, symbol := range order[:n] {
		l[symbol] = f.take(3)
	}
	return l
}

// codeLengths reads so many lengths, which are written with the third code.
func (f *inflater) codeLengths(third *canon.Decoder, n int) []int {
	var l []int
	for len(l) < n {
		length, times := f.run(third, l)
		if times > n-len(l) {
			panic(api.ErrCode)
		}
		for range times {
			l = append(l, length)
		}
	}
	return l
}

// run reads the length that comes behind others, and how many times it comes.
func (f *inflater) run(third *canon.Decoder, before []int) (int, int) {
	switch symbol := need(third.Take(f.r)); symbol {
	case repeatLast:
		if len(before) == 0 {
			panic(api.ErrCode)
		}
		return before[len(before)-1], 3 + f.take(2)
	case shortZeros:
		return 0, 3 + f.take(3)
	case longZeros:
		return 0, 11 + f.take(7)
	default:
		return symbol, 1
	}
}
