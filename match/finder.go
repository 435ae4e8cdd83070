package match

import (
	"hamper/api"
)

// start is the octets that a match begins with.
type start [api.MinMatch]byte

// finder is octets, and the offsets, in ascending order, at which each start occurs among those that were added.
type finder struct {
	b       []byte
	offsets map[start][]int
}

// newFinder is a finder to which no offset was added yet.
func newFinder(b []byte) finder { return finder{b, map[start][]int{}} }

// startAt is the start at an offset; false, if the octets end within it.
func (f finder) startAt(at int) (start, bool) {
	if len(f.b)-at < api.MinMatch {
		return start{}, false
	}
	return start(f.b[at : at+api.MinMatch]), true
}

// add adds the offsets from one up to ahead of another; they are behind all that were added before.
func (f finder) add(from, to int) {
	for at := from; at < to; at++ {
		if s, ok := f.startAt(at); ok {
			f.offsets[s] = append(f.offsets[s], at)
		}
	}
}

// best is the number of octets and the distance of the best match with the offsets that were added.
func (f finder) best(at int) (int, int) {
	s, ok := f.startAt(at)
	if !ok {
		return 0, 0
	}
	earlier := f.offsets[s]
	most := min(api.MaxMatch, len(f.b)-at)
	size, dist := 0, 0
	// The least distance comes first: a greater one has to give more octets.
	for i := len(earlier) - 1; i >= 0 && size < most && at-earlier[i] <= api.MaxDist; i-- {
		// A match with more octets must also equal the octet at which the best one so far ended.
		if f.b[earlier[i]+size] != f.b[at+size] {
			continue
		}
		if n := f.equal(earlier[i], at, most); n > size {
			size, dist = n, at-earlier[i]
		}
	}
	return size, dist
}

// equal is how many octets from an offset on equal those from an earlier one on, at most most.
func (f finder) equal(earlier, at, most int) int {
	n := 0
	for n < most && f.b[earlier+n] == f.b[at+n] {
		n++
	}
	return n
}

// token is the token at an offset.
func (f finder) token(at int) api.Token {
	size, dist := f.best(at)
	if size == 0 {
		return api.Token{Lit: f.b[at]}
	}
	return api.Token{Len: size, Dist: dist}
}
