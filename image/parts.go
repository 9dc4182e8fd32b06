package image

import "escapement/pack"

// part is how a part of a T is put and taken.
type part[T any] struct {
	put  func(w *pack.Writer, x *T)
	take func(r *pack.Reader, x *T)
}

// field is the part that lies in a T where at says. It says so for both ways, so that no field is put from one place and taken to another.
func field[T, F any](form pack.Form[F], at func(x *T) *F) part[T] {
	return part[T]{
		put:  func(w *pack.Writer, x *T) { form.Put(w, *at(x)) },
		take: func(r *pack.Reader, x *T) { *at(x) = form.Take(r) },
	}
}

// mark is a number that stands in the bytes of each T, and tells nothing of it.
func mark[T any](n int) part[T] {
	form := pack.Numbers(n, n)
	return part[T]{
		put:  func(w *pack.Writer, _ *T) { form.Put(w, n) },
		take: func(r *pack.Reader, _ *T) { form.Take(r) },
	}
}

// whole is the form of a T whose parts stand one behind the other.
func whole[T any](parts ...part[T]) pack.Form[T] {
	put := func(w *pack.Writer, x T) {
		for _, p := range parts {
			p.put(w, &x)
		}
	}
	take := func(r *pack.Reader) T {
		var x T
		for _, p := range parts {
			p.take(r, &x)
		}
		return x
	}
	return pack.Make(put, take)
}
