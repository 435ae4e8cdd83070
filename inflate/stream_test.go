package inflate_test

import (
	"slices"
	"strings"
)

// stream is the bits of an input.
type stream string

// token is a symbol of the first code, and, if way is not below 0, a symbol of the second one; behind both their extra bits.
type token struct {
	symbol int
	extra  string
	way    int
	more   string
}

// sym is a symbol of the first code alone.
func sym(symbol int) token { return token{symbol: symbol, way: -1} }

// stop is the symbol that ends a block.
func stop() token { return sym(256) }

// back is a copy.
func back(size, dist int) token {
	lengths, extras, ways, wayExtras := basesOf()
	i, j := 0, 0
	for i < 28 && lengths[i+1] <= size {
		i++
	}
	for j < 29 && ways[j+1] <= dist {
		j++
	}
	return token{257 + i, num(size-lengths[i], extras[i]), j, num(dist-ways[j], wayExtras[j])}
}

// lits is the tokens of octets.
func lits(s string) []token {
	var l []token
	for i := range len(s) {
		l = append(l, sym(int(s[i])))
	}
	return l
}

// head is the first three bits of a block.
func (s stream) head(last, kind int) stream { return s.num(last, 1).num(kind, 2) }

// num is with a number behind.
func (s stream) num(v, n int) stream { return s + stream(num(v, n)) }

// align is with zeros up to an octet's end.
func (s stream) align() stream { return s.num(0, (8-len(s)%8)%8) }

// stored is with a stored block.
func (s stream) stored(last int, b string) stream {
	return s.head(last, 0).align().num(len(b), 16).num(65535-len(b), 16) + stream(bitsOf([]byte(b)))
}

// tokens is with tokens, in the codes of two lists of lengths.
func (s stream) tokens(first, second []int, l ...token) stream {
	firsts, seconds := spelt(first), spelt(second)
	var b strings.Builder
	b.WriteString(string(s))
	for _, x := range l {
		b.WriteString(firsts[x.symbol] + x.extra)
		if x.way >= 0 {
			b.WriteString(seconds[x.way] + x.more)
		}
	}
	return stream(b.String())
}

// fixed is with a block of kind 1, which ends only if the tokens say so.
func (s stream) fixed(last int, l ...token) stream {
	first, second := fixedOf()
	return s.head(last, 1).tokens(first, second, l...)
}

// step is a symbol of the third code, and its extra bits.
type step struct {
	symbol int
	extra  string
}

// plan is how codes are transmitted: how many lengths of each code, the lengths of the third code, and the list of lengths, written with it.
type plan struct {
	firsts, seconds, thirds int
	third                   []int
	steps                   []step
}

// thirdOf is complete lengths of a third code with these symbols, two at least.
func thirdOf(symbols ...int) []int {
	l, size := many(19, 0), 1
	for 2<<size <= len(symbols) {
		size++
	}
	for i, symbol := range symbols {
		l[symbol] = size
		if i >= 2<<size-len(symbols) {
			l[symbol]++
		}
	}
	return l
}

// planOf is a plan of two codes, each length by itself.
func planOf(first, second []int) plan {
	p := plan{firsts: len(first), seconds: len(second), thirds: 19, third: thirdOf(slices.Sorted(slices.Values(thirdOrder()))...)}
	return p.with(each(append(append([]int{}, first...), second...))...)
}

// with is a plan with other steps.
func (p plan) with(l ...step) plan {
	p.steps = l
	return p
}

// each is a list of lengths, each by itself.
func each(l []int) []step {
	var steps []step
	for _, n := range l {
		steps = append(steps, step{symbol: n})
	}
	return steps
}

// repeat is n times the last length, 3 to 6 of them.
func repeat(n int) step { return step{16, num(n-3, 2)} }

// zeros is n times the length 0, 3 to 138 of them.
func zeros(n int) step {
	if n <= 10 {
		return step{17, num(n-3, 3)}
	}
	return step{18, num(n-11, 7)}
}

// codes is with the beginning of a block of kind 2, up to the end of its codes.
func (s stream) codes(last int, p plan) stream {
	s = s.head(last, 2).num(p.firsts-257, 5).num(p.seconds-1, 5).num(p.thirds-4, 4)
	for _, symbol := range thirdOrder()[:p.thirds] {
		s = s.num(p.third[symbol], 3)
	}
	thirds := spelt(p.third)
	var b strings.Builder
	for _, x := range p.steps {
		b.WriteString(thirds[x.symbol] + x.extra)
	}
	return s + stream(b.String())
}

// own is with a block of kind 2.
func (s stream) own(last int, first, second []int, l ...token) stream {
	return s.codes(last, planOf(first, second)).tokens(first, second, l...)
}

// bytes is the octets of a stream.
func (s stream) bytes() []byte { return octetsOf(string(s)) }

// ending is the octets of a stream behind blocks without output, so that it ends with an octet.
func (s stream) ending() []byte {
	p := stream("")
	if len(s)%2 == 1 {
		// A block of an odd number of bits; those of kind 1 have ten.
		p = p.own(0, onlyStop(), []int{0}, stop())
	}
	for (len(p)+len(s))%8 != 0 {
		p = p.fixed(0, stop())
	}
	return (p + s).bytes()
}

// onlyStop is lengths of a first code that can do nothing but end the block.
func onlyStop() []int { return append(many(256, 0), 1) }
