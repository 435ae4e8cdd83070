package inflate

import (
	"hamper/api"
)

// How many symbols give a length, and a distance.
const (
	lengthSymbols = 29
	waySymbols    = 30
)

// base is the least number that a symbol gives, and how many extra bits follow it.
type base struct{ least, extra int }

// fill fills the bases from the least number on; behind the first two groups, the symbols of each group have one extra bit more.
func fill(l []base, least, group int) {
	for i := range l {
		extra := max(0, i/group-1)
		l[i] = base{least, extra}
		least += 1 << extra
	}
}

// lengthBases is the bases of the lengths.
func lengthBases() [lengthSymbols]base {
	var l [lengthSymbols]base
	fill(l[:], api.MinMatch, 4)
	// The greatest length has a symbol of its own, though the symbol before would reach it.
	l[lengthSymbols-1] = base{least: api.MaxMatch}
	return l
}

// wayBases is the bases of the distances.
func wayBases() [waySymbols]base {
	var l [waySymbols]base
	fill(l[:], 1, 2)
	return l
}

// split is the symbol whose base is the last one up to a number, how many extra bits it has, and what they say.
func split(l []base, n int) (int, int, int) {
	symbol := len(l) - 1
	for l[symbol].least > n {
		symbol--
	}
	return symbol, l[symbol].extra, n - l[symbol].least
}

// Length is the symbol of a length, how many bits more, and what they say.
func Length(n int) (int, int, int) {
	if n < api.MinMatch || n > api.MaxMatch {
		return 0, 0, 0
	}
	l := lengthBases()
	symbol, extra, v := split(l[:], n)
	return firstLength + symbol, extra, v
}

// Way is the symbol of a way, likewise.
func Way(n int) (int, int, int) {
	if n < 1 || n > api.MaxDist {
		return -1, 0, 0
	}
	l := wayBases()
	return split(l[:], n)
}
