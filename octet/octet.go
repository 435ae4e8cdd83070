// Package octet is layer 1: see shared/doc/01-octet.md.
package octet

import (
	"hamper/api"
)

const (
	maxWidth  = 8       // octets of a number
	textWidth = 2       // octets of a text's length
	maxPadded = 1 << 20 // octets that Pad makes
)

// mayWidth: may a number have so many octets?
func mayWidth(width int) bool { return 1 <= width && width <= maxWidth }

// Put is a number's octets.
func Put(v uint64, width int) ([]byte, api.Errno) {
	if !mayWidth(width) {
		return nil, api.ErrArg
	}
	// At the full width the shift leaves nothing, so every number fits there.
	if v>>(8*width) != 0 {
		return nil, api.ErrOver
	}
	b := make([]byte, width)
	for i := range width {
		b[i] = byte(v >> (8 * i))
	}
	return b, api.OK
}

// PutText is a text's octets.
func PutText(s string) ([]byte, api.Errno) {
	if len(s) > api.MaxText {
		return nil, api.ErrOver
	}
	b, e := Put(uint64(len(s)), textWidth)
	return append(b, s...), e
}

// Pad is octets and noughts.
func Pad(b []byte, n int) ([]byte, api.Errno) {
	if n < 0 || n > maxPadded {
		return nil, api.ErrArg
	}
	if len(b) > n {
		return nil, api.ErrFull
	}
	out := make([]byte, n)
	copy(out, b)
	return out, api.OK
}

// Num is a number that stands somewhere.
func Num(b []byte, at, width int) (uint64, api.Errno) {
	if !mayWidth(width) {
		return 0, api.ErrArg
	}
	if at < 0 || at > len(b) {
		return 0, api.ErrRange
	}
	if len(b)-at < width {
		return 0, api.ErrShort
	}
	v := uint64(0)
	for i := range width {
		v |= uint64(b[at+i]) << (8 * i)
	}
	return v, api.OK
}

// Reader is octets that are read on.
type Reader struct {
	b  []byte
	at int
	// A read that fails leaves at where its item begins, and none moves it
	// after that: so at is the place of the error too.
	e api.Errno
}

// Read is a reader at the beginning.
func Read(b []byte) *Reader {
	// A copy, as the caller may change b while the reader is in use.
	return &Reader{b: append([]byte(nil), b...)}
}

// At is how far it is read.
func (r *Reader) At() int { return r.at }

// Num reads a number on.
func (r *Reader) Num(width int) uint64 {
	if r.e != api.OK {
		return 0
	}
	v, e := Num(r.b, r.at, width)
	if e != api.OK {
		r.e = e
		return 0
	}
	r.at += width
	return v
}

// Raw reads octets on.
func (r *Reader) Raw(n int) []byte {
	if r.e != api.OK {
		return nil
	}
	if n < 0 {
		r.e = api.ErrArg
		return nil
	}
	if len(r.b)-r.at < n {
		r.e = api.ErrShort
		return nil
	}
	out := append([]byte(nil), r.b[r.at:r.at+n]...)
	r.at += n
	return out
}

// Text reads a text on.
func (r *Reader) Text() string {
	begin := r.at
	s := string(r.Raw(int(r.Num(textWidth))))
	if r.e != api.OK {
		// A text that is not whole begins at its length, which may have been read.
		r.at = begin
	}
	return s
}

// Err is what was wrong first.
func (r *Reader) Err() (api.Errno, int) {
	if r.e == api.OK {
		return api.OK, 0
	}
	return r.e, r.at
}

// End is what is wrong, if all should be read.
func (r *Reader) End() (api.Errno, int) {
	if r.e == api.OK && r.at < len(r.b) {
		return api.ErrExtra, r.at
	}
	return r.Err()
}
