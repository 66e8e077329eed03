// Package octet is layer 1: see shared/doc/01-octet.md.
package octet

import (
	"bytes"
	"math/bits"

	"tidemark/api"
)

// intBytes is the width of an int in bytes (rule 4 of the document).
const intBytes = 8

// Put appends a number's bytes, the lowest first.
func Put[T uint8 | uint16 | uint32 | uint64](b []byte, v T) []byte {
	n := width[T]()
	// Not append(b, ..): that could write into the spare room of what was handed in.
	out := make([]byte, len(b), len(b)+n)
	copy(out, b)
	for i := range n {
		out = append(out, byte(uint64(v)>>(8*i)))
	}
	return out
}

// Get gives the number at the beginning.
func Get[T uint8 | uint16 | uint32 | uint64](b []byte) (T, api.Errno) {
	n := width[T]()
	if len(b) < n {
		return 0, api.ErrShort
	}
	return T(lowestFirst(b[:n])), api.OK
}

// Join puts rows one behind the other.
func Join(rows ...[]byte) []byte {
	n := 0
	for _, row := range rows {
		n += len(row)
	}
	out := make([]byte, 0, n)
	for _, row := range rows {
		out = append(out, row...)
	}
	return out
}

// Reader goes over bytes.
type Reader struct {
	rest []byte // what has not been taken; the reader's own copy
}

// NewReader gives a reader of these bytes.
func NewReader(b []byte) *Reader {
	return &Reader{rest: bytes.Clone(b)}
}

// Number takes a number of so many bytes.
func (r *Reader) Number(width int) (uint64, api.Errno) {
	if width != 1 && width != 2 && width != 4 && width != 8 {
		return 0, api.ErrRange
	}
	if len(r.rest) < width {
		return 0, api.ErrShort
	}
	return lowestFirst(r.take(width)), api.OK
}

// Int takes a number of 8 bytes, at most MaxLsn.
func (r *Reader) Int() (int, api.Errno) {
	v, e := Get[uint64](r.rest)
	if e != api.OK {
		return 0, e
	}
	if v > api.MaxLsn {
		return 0, api.ErrRange
	}
	r.take(intBytes)
	return int(v), api.OK
}

// Row takes so many bytes.
func (r *Reader) Row(n int) ([]byte, api.Errno) {
	if n < 0 {
		return nil, api.ErrRange
	}
	if len(r.rest) < n {
		return nil, api.ErrShort
	}
	// A copy: the caller may write into it, and a later answer must not show that.
	return bytes.Clone(r.take(n)), api.OK
}

// Left tells how many bytes are left.
func (r *Reader) Left() int { return len(r.rest) }

// End tells whether all has been taken.
func (r *Reader) End() api.Errno {
	if len(r.rest) > 0 {
		return api.ErrTrail
	}
	return api.OK
}

// take moves the reader behind the next n bytes; the caller has looked that they are there.
func (r *Reader) take(n int) []byte {
	b := r.rest[:n]
	r.rest = r.rest[n:]
	return b
}

// width tells how many bytes a number of that type has.
func width[T uint8 | uint16 | uint32 | uint64]() int {
	return bits.Len64(uint64(^T(0))) / 8
}

// lowestFirst gives the number that at most 8 bytes are.
func lowestFirst(b []byte) uint64 {
	v := uint64(0)
	for i, x := range b {
		v |= uint64(x) << (8 * i)
	}
	return v
}
