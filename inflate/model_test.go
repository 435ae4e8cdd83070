package inflate_test

import (
	"bytes"
	"strings"
	"testing"

	"hamper/api"
	"hamper/inflate"
)

// bitsOf is the bits of octets, in their order.
func bitsOf(b []byte) string {
	var s strings.Builder
	for _, c := range b {
		s.WriteString(num(int(c), 8))
	}
	return s.String()
}

// octetsOf is the octets of bits, with zeros behind.
func octetsOf(s string) []byte {
	b := make([]byte, (len(s)+7)/8)
	for i := range s {
		if s[i] == '1' {
			b[i/8] |= 1 << (i % 8)
		}
	}
	return b
}

// num is the bits of a number, its lowest bit first.
func num(v, n int) string {
	s := ""
	for range n {
		s += string(rune('0' + v%2))
		v /= 2
	}
	return s
}

// numOf is the number of bits, its lowest bit first.
func numOf(s string) int {
	v := 0
	for i := len(s) - 1; i >= 0; i-- {
		v = 2*v + int(s[i]-'0')
	}
	return v
}

// spelt is the bits of each symbol's code, by the words of layer 9; empty, where it has none.
func spelt(l []int) []string {
	codes := make([]string, len(l))
	next, size := -1, 0
	for n := 1; n <= 15; n++ {
		for symbol, length := range l {
			if length != n {
				continue
			}
			next = (next + 1) << (n - size)
			size = n
			turned := []byte(num(next, n))
			for i := range turned {
				codes[symbol] += string(turned[n-1-i])
			}
		}
	}
	return codes
}

// decodable: are lengths decodable, by the words of layer 9?
func decodable(l []int) bool {
	sum, codes, last := 0, 0, 0
	for _, n := range l {
		if n > 0 {
			sum += 1 << (15 - n)
			codes++
			last = n
		}
	}
	return sum == 1<<15 || codes == 0 || codes == 1 && last == 1
}

// What the chapter writes out: the base lengths and distances, and how many extra bits follow each.
func basesOf() (lengths, extras, ways, wayExtras []int) {
	lengths = []int{3, 4, 5, 6, 7, 8, 9, 10, 11, 13, 15, 17, 19, 23, 27, 31, 35, 43, 51, 59, 67, 83, 99, 115, 131, 163, 195, 227, 258}
	extras = []int{0, 0, 0, 0, 0, 0, 0, 0, 1, 1, 1, 1, 2, 2, 2, 2, 3, 3, 3, 3, 4, 4, 4, 4, 5, 5, 5, 5, 0}
	ways = []int{1, 2, 3, 4, 5, 7, 9, 13, 17, 25, 33, 49, 65, 97, 129, 193, 257, 385, 513, 769, 1025, 1537, 2049, 3073, 4097, 6145, 8193, 12289, 16385, 24577}
	wayExtras = []int{0, 0, 0, 0, 1, 1, 2, 2, 3, 3, 4, 4, 5, 5, 6, 6, 7, 7, 8, 8, 9, 9, 10, 10, 11, 11, 12, 12, 13, 13}
	return lengths, extras, ways, wayExtras
}

// fixedOf is the lengths of kind 1, as the chapter tells them.
func fixedOf() ([]int, []int) {
	first, second := make([]int, 288), make([]int, 32)
	for symbol := range first {
		switch {
		case symbol <= 143:
			first[symbol] = 8
		case symbol <= 255:
			first[symbol] = 9
		case symbol <= 279:
			first[symbol] = 7
		default:
			first[symbol] = 8
		}
	}
	for symbol := range second {
		second[symbol] = 5
	}
	return first, second
}

// thirdOrder is the order in which the lengths of the third code come.
func thirdOrder() []int {
	return []int{16, 17, 18, 0, 8, 7, 9, 6, 10, 5, 11, 4, 12, 3, 13, 2, 14, 1, 15}
}

// reading is a model of Inflate, by the chapter's words: the bits that are left, what is output, and the first error, after which nothing counts.
type reading struct {
	s    string
	most int
	out  []byte
	e    api.Errno
}

// inflated is what Inflate has to answer.
func inflated(b []byte, most int) ([]byte, int, api.Errno) {
	if most < 0 {
		return nil, 0, api.ErrArg
	}
	m := &reading{s: bitsOf(b), most: most}
	for last := 0; last == 0 && m.e == api.OK; {
		last = m.num(1)
		m.block(m.num(2))
	}
	if m.e != api.OK {
		return nil, 0, m.e
	}
	return m.out, len(b) - len(m.s)/8, api.OK
}

func (m *reading) fail(e api.Errno) {
	if m.e == api.OK {
		m.e = e
	}
}

func (m *reading) num(n int) int {
	if n > len(m.s) {
		m.fail(api.ErrShort)
	}
	if m.e != api.OK {
		return 0
	}
	v := numOf(m.s[:n])
	m.s = m.s[n:]
	return v
}

// symbol reads a code; -1 beside an error.
func (m *reading) symbol(codes map[string]int) int {
	if len(codes) == 0 {
		m.fail(api.ErrCode)
	}
	for n := 1; m.e == api.OK; n++ {
		if n > len(m.s) {
			m.fail(api.ErrShort)
		} else if symbol, ok := codes[m.s[:n]]; ok {
			m.s = m.s[n:]
			return symbol
		} else if len(codes) == 1 || n == 15 {
			m.fail(api.ErrCode)
		}
	}
	return -1
}

// book is the symbols by their codes; there is an error, if the lengths are not decodable.
func (m *reading) book(l []int) map[string]int {
	if !decodable(l) {
		m.fail(api.ErrCode)
		return nil
	}
	codes := map[string]int{}
	for symbol, s := range spelt(l) {
		if s != "" {
			codes[s] = symbol
		}
	}
	return codes
}

func (m *reading) block(kind int) {
	switch kind {
	case 0:
		m.stored()
	case 1:
		first, second := fixedOf()
		m.tokens(m.book(first), m.book(second))
	case 2:
		m.tokens(m.transmitted())
	default:
		m.fail(api.ErrForm)
	}
}

func (m *reading) stored() {
	m.num(len(m.s) % 8)
	n, other := m.num(16), m.num(16)
	if m.e == api.OK && n+other != 65535 {
		m.fail(api.ErrForm)
	}
	var l []byte
	for i := 0; i < n && m.e == api.OK; i++ {
		l = append(l, byte(m.num(8)))
	}
	m.output(l)
}

func (m *reading) transmitted() (map[string]int, map[string]int) {
	firsts, seconds, thirds := m.num(5)+257, m.num(5)+1, m.num(4)+4
	if firsts > 286 || seconds > 30 {
		m.fail(api.ErrForm)
	}
	third := make([]int, 19)
	for _, symbol := range thirdOrder()[:thirds] {
		third[symbol] = m.num(3)
	}
	codes := m.book(third)
	var l []int
	for m.e == api.OK && len(l) < firsts+seconds {
		l = append(l, m.run(codes, l)...)
	}
	if len(l) != firsts+seconds || l[256] == 0 {
		m.fail(api.ErrCode)
		return nil, nil
	}
	return m.book(l[:firsts]), m.book(l[firsts:])
}

func (m *reading) run(codes map[string]int, before []int) []int {
	symbol := m.symbol(codes)
	switch {
	case symbol == 16 && len(before) == 0:
		m.fail(api.ErrCode)
		return nil
	case symbol == 16:
		return many(3+m.num(2), before[len(before)-1])
	case symbol == 17:
		return many(3+m.num(3), 0)
	case symbol == 18:
		return many(11+m.num(7), 0)
	}
	return []int{symbol}
}

func (m *reading) tokens(first, second map[string]int) {
	lengths, extras, ways, wayExtras := basesOf()
	for m.e == api.OK {
		symbol := m.symbol(first)
		switch {
		case m.e != api.OK || symbol == 256:
			return
		case symbol < 256:
			m.output([]byte{byte(symbol)})
		case symbol > 285:
			m.fail(api.ErrCode)
		default:
			size := lengths[symbol-257] + m.num(extras[symbol-257])
			way := m.symbol(second)
			if way > 29 {
				m.fail(api.ErrCode)
			}
			if m.e == api.OK {
				m.again(size, ways[way]+m.num(wayExtras[way]))
			}
		}
	}
}

func (m *reading) again(size, dist int) {
	if dist > len(m.out) {
		m.fail(api.ErrDist)
		return
	}
	m.output(copied(m.out, size, dist))
}

func (m *reading) output(l []byte) {
	if m.e == api.OK && len(m.out)+len(l) > m.most {
		m.fail(api.ErrBound)
	}
	if m.e == api.OK {
		m.out = append(m.out, l...)
	}
}

// copied is so many octets from a distance: those from there on, again and again.
func copied(b []byte, size, dist int) []byte {
	return bytes.Repeat(b[len(b)-dist:], size/dist+1)[:size]
}

// many is n times v.
func many(n, v int) []int {
	l := make([]int, n)
	for i := range l {
		l[i] = v
	}
	return l
}

// wantInflate asks for octets, and how many were read.
func wantInflate(t *testing.T, b []byte, most int, want []byte, used int) {
	t.Helper()
	was := bytes.Clone(b)
	out, n, e := inflate.Inflate(b, most)
	if e != api.OK || n != used || !bytes.Equal(out, want) {
		t.Fatalf("Inflate of %d octets (%.40x), %d: %d octets (%.40q), %d read, error %d; want %d octets (%.40q), %d read", len(b), b, most, len(out), out, n, e, len(want), want, used)
	}
	if !bytes.Equal(b, was) {
		t.Fatal("the argument has changed")
	}
}

// wantNoInflate asks for an error.
func wantNoInflate(t *testing.T, b []byte, most int, want api.Errno) {
	t.Helper()
	was := bytes.Clone(b)
	out, n, e := inflate.Inflate(b, most)
	if e != want || n != 0 || out != nil {
		t.Fatalf("Inflate of %d octets (%.40x), %d: %d octets (%.40q), %d read, error %d; want error %d", len(b), b, most, len(out), out, n, e, want)
	}
	if !bytes.Equal(b, was) {
		t.Fatal("the argument has changed")
	}
}

// wantModel asks what Inflate says, beside the model.
func wantModel(t *testing.T, b []byte, most int) {
	t.Helper()
	out, used, e := inflated(b, most)
	if e == api.OK {
		wantInflate(t, b, most, out, used)
		return
	}
	wantNoInflate(t, b, most, e)
}

// wantModelOf asks what Inflate says of a stream as it ends and with more behind it, beside the model.
func wantModelOf(t *testing.T, s stream, most int) {
	t.Helper()
	wantModel(t, s.ending(), most)
	for v := range 4 {
		wantModel(t, (s + stream(strings.Repeat(num(v, 2), 300))).ending(), most)
	}
}
