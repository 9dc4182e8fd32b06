package pack

import (
	"bytes"

	"escapement/api"
)

// Writer lays values behind one another.
type Writer struct {
	laid  []byte
	most  int
	fault api.Errno
}

// NewWriter is one that takes so many bytes at most.
func NewWriter(most int) *Writer {
	return &Writer{most: min(max(most, 0), api.MaxLen)}
}

// Fail lets it have a fault.
func (w *Writer) Fail() { w.fail(api.ErrPackForm) }

// Done tells all the bytes.
func (w *Writer) Done() ([]byte, api.Errno) {
	if w.fault != api.OK {
		return nil, w.fault
	}
	return bytes.Clone(w.laid), api.OK
}

// fail notes a fault, unless there is one, which stays.
func (w *Writer) fail(fault api.Errno) {
	if w.fault == api.OK {
		w.fault = fault
	}
}

// fits tells whether so many bytes more may be laid; a primitive value asks it
// once, for all its bytes, as it is laid whole or not at all.
func (w *Writer) fits(n int) bool {
	if n > w.most-len(w.laid) {
		w.fail(api.ErrPackLong)
		return false
	}
	return true
}

// lay lays bytes behind the rest.
func (w *Writer) lay(b []byte) {
	if w.fits(len(b)) {
		w.laid = append(w.laid, b...)
	}
}

// layRow lays the number of x's bytes and these, as one primitive value.
func layRow[B string | []byte](w *Writer, x B, most int) {
	if len(x) > most {
		w.fail(api.ErrPackLong)
		return
	}
	head := numberBytes(len(x))
	if w.fits(len(head) + len(x)) {
		w.laid = append(w.laid, head...)
		w.laid = append(w.laid, x...)
	}
}

// numberBytes is how a number from 0 on stands in bytes.
func numberBytes(n int) []byte {
	var b []byte
	for ; n >= more; n >>= groupBits {
		b = append(b, byte(n)|more)
	}
	return append(b, byte(n))
}
