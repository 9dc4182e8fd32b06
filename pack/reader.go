package pack

import (
	"bytes"

	"escapement/api"
)

// How a number stands: in groups of so many bits, each in a byte whose highest
// bit says that more follow; so many bytes hold every number that may be.
const (
	groupBits  = 7
	more       = 1 << groupBits
	numberSize = 9
)

// Reader takes values off bytes.
type Reader struct {
	data  []byte
	taken int
	fault api.Errno
}

// giveUp is what a reader that can not go on panics with: the fault.
type giveUp api.Errno

// NewReader is one over these bytes.
func NewReader(b []byte) *Reader {
	if len(b) > api.MaxLen {
		return &Reader{fault: api.ErrPackLong}
	}
	return &Reader{data: bytes.Clone(b)}
}

// Fail lets it have a fault.
func (r *Reader) Fail() { r.fail(api.ErrPackForm) }

// At tells how many bytes were taken.
func (r *Reader) At() int { return r.taken }

// Err tells the fault.
func (r *Reader) Err() api.Errno { return r.fault }

// End tells the fault, or that bytes are left.
func (r *Reader) End() api.Errno {
	if r.fault == api.OK && len(r.left()) > 0 {
		return api.ErrPackRest
	}
	return r.fault
}

// fail notes a fault, unless there is one, which stays.
func (r *Reader) fail(fault api.Errno) {
	if r.fault == api.OK {
		r.fault = fault
	}
}

// caught notes the fault with which the reader gave up. A panic of another
// kind is none of the reader's, and goes on.
func (r *Reader) caught(why any) {
	switch why := why.(type) {
	case nil:
	case giveUp:
		r.fail(api.Errno(why))
	default:
		panic(why)
	}
}

// left is the bytes that were not taken.
func (r *Reader) left() []byte { return r.data[r.taken:] }

// peek is the next n bytes. They are not taken yet, as what they say may still
// be refused.
func (r *Reader) peek(n int) []byte {
	if n > len(r.left()) {
		panic(giveUp(api.ErrPackShort))
	}
	return r.left()[:n]
}

// peekNumber is the number that stands next, and how many bytes it has.
func (r *Reader) peekNumber() (n, size int) {
	left := r.left()
	for i, b := range left[:min(len(left), numberSize)] {
		n |= int(b&^more) << (groupBits * i)
		if b >= more {
			continue
		}
		if b == 0 && i > 0 {
			panic(giveUp(api.ErrPackForm))
		}
		return n, i + 1
	}
	if len(left) < numberSize {
		panic(giveUp(api.ErrPackShort))
	}
	panic(giveUp(api.ErrPackForm))
}

// peekCount is the number at the head of a row of bytes, or of a list, and how
// many bytes it has. A thing of a list has a byte at least, so that either way
// no more can follow than bytes are left.
func (r *Reader) peekCount(most int) (n, size int) {
	n, size = r.peekNumber()
	if n > most {
		panic(giveUp(api.ErrPackLong))
	}
	if n > len(r.left())-size {
		panic(giveUp(api.ErrPackShort))
	}
	return n, size
}

// takeRow takes a number of bytes and these. They are the reader's own: who
// hands them out copies them.
func (r *Reader) takeRow(most int) []byte {
	n, size := r.peekCount(most)
	row := r.peek(size + n)[size:]
	r.taken += size + n
	return row
}
