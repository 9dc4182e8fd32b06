package pack

import (
	"bytes"

	"escapement/api"
)

// wordSize is the bytes of a word.
const wordSize = 8

// Numbers are those from least to most.
func Numbers(least, most int) Form[int] {
	put := func(w *Writer, x int) {
		if x < least || x < 0 || x > most {
			w.Fail()
			return
		}
		w.lay(numberBytes(x))
	}
	take := func(r *Reader) int {
		n, size := r.peekNumber()
		if n < least || n > most {
			panic(giveUp(api.ErrPackForm))
		}
		r.taken += size
		return n
	}
	return Make(put, take)
}

// Words are 64 bits.
func Words() Form[uint64] {
	put := func(w *Writer, x uint64) {
		var b [wordSize]byte
		for i := range b {
			b[i] = byte(x >> (8 * i))
		}
		w.lay(b[:])
	}
	take := func(r *Reader) uint64 {
		var x uint64
		for i, b := range r.peek(wordSize) {
			x |= uint64(b) << (8 * i)
		}
		r.taken += wordSize
		return x
	}
	return Make(put, take)
}

// Flags are false and true.
func Flags() Form[bool] {
	put := func(w *Writer, x bool) {
		if x {
			w.lay([]byte{1})
		} else {
			w.lay([]byte{0})
		}
	}
	take := func(r *Reader) bool {
		b := r.peek(1)[0]
		if b > 1 {
			panic(giveUp(api.ErrPackForm))
		}
		r.taken++
		return b == 1
	}
	return Make(put, take)
}

// Texts are those of so many bytes at most.
func Texts(most int) Form[string] {
	put := func(w *Writer, x string) { layRow(w, x, most) }
	take := func(r *Reader) string { return string(r.takeRow(most)) }
	return Make(put, take)
}

// Blobs are bytes, so many at most.
func Blobs(most int) Form[[]byte] {
	put := func(w *Writer, x []byte) { layRow(w, x, most) }
	take := func(r *Reader) []byte { return bytes.Clone(r.takeRow(most)) }
	return Make(put, take)
}

// Lists are those of so many things at most.
func Lists[T any](one Form[T], most int) Form[[]T] {
	most = min(most, api.MaxLen)
	put := func(w *Writer, x []T) {
		if len(x) > most {
			w.fail(api.ErrPackLong)
			return
		}
		w.lay(numberBytes(len(x)))
		putAll(w, one, x)
	}
	take := func(r *Reader) []T {
		n, size := r.peekCount(most)
		r.taken += size
		return takeAll(r, one, n)
	}
	return Make(put, take)
}

// putAll lays each thing, till there is a fault. One without a byte is a fault,
// as a reader holds the number of things against the bytes that are left.
func putAll[T any](w *Writer, one Form[T], x []T) {
	for _, thing := range x {
		if w.fault != api.OK {
			return
		}
		ahead := len(w.laid)
		one.Put(w, thing)
		if len(w.laid) == ahead {
			w.Fail()
		}
	}
}

// takeAll takes n things, or gives up at the first fault. The list grows by
// what was taken: n alone may be far more than the bytes bear out.
func takeAll[T any](r *Reader, one Form[T], n int) []T {
	var list []T
	for range n {
		at := r.taken
		thing := one.Take(r)
		if r.taken == at {
			r.Fail()
		}
		if r.fault != api.OK {
			panic(giveUp(r.fault))
		}
		list = append(list, thing)
	}
	return list
}
