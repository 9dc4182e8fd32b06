package wheel

import (
	"iter"
	"math/bits"
)

// A time is written in digits, of which each level tells one apart.
const (
	digit = 6
	width = 1 << digit
	depth = 11 // digits that MaxTime has
)

// place is where a slot stands.
type place struct{ level, slot int }

// place tells the slot of a time that is not behind now: the level is that of
// the highest digit in which the two differ, the slot that digit of the time.
// So what stands on a level is due ahead of all on the levels above it, and a
// slot ahead of all higher ones of its level. On the lowest level a slot has
// timers of one time only.
func (w *Wheel[T]) place(time int) place {
	level := 0
	if n := bits.Len(uint(time ^ w.now)); n > 0 {
		level = (n - 1) / digit
	}
	return place{level, digitOf(time, level)}
}

// digitOf tells the digit of a time that a level tells apart.
func digitOf(time, level int) int { return time >> (level * digit) % width }

// begin tells the first time whose place is p: now's digits above the level,
// then the slot, then noughts.
func (w *Wheel[T]) begin(p place) int {
	shift := p.level * digit
	return (w.now>>shift>>digit<<digit + p.slot) << shift
}

// slot is the slot that stands at a place.
func (w *Wheel[T]) slot(p place) *slot[T] { return &w.levels[p.level][p.slot] }

// first finds the first slot that has timers, of those that begin at a time at the latest.
func (w *Wheel[T]) first(to int) (place, bool) {
search:
	for level := range depth {
		for i := digitOf(w.now, level); i < width; i++ {
			p := place{level, i}
			if w.begin(p) > to {
				break search
			}
			if w.slot(p).first != nil {
				return p, true
			}
		}
	}
	return place{}, false
}

// open lays the timers of the first slot that has any out over the levels
// below it: now goes on to where the slot begins, and they are nearer to it.
func (w *Wheel[T]) open(p place) {
	s := w.slot(p)
	opened := *s
	*s = slot[T]{}
	w.now = w.begin(p)
	for e := range opened.all() {
		w.slot(w.place(e.Due)).add(e)
	}
}

// entry is a timer among its neighbours.
type entry[T any] struct {
	Timer[T]
	before, behind *entry[T]
}

// slot is a row of timers. Each is laid behind those that were scheduled ahead
// of it, so that of one Due the lesser ID comes first.
type slot[T any] struct{ first, last *entry[T] }

func (s *slot[T]) add(e *entry[T]) {
	e.before, e.behind = s.last, nil
	if s.last == nil {
		s.first = e
	} else {
		s.last.behind = e
	}
	s.last = e
}

func (s *slot[T]) remove(e *entry[T]) {
	if e.before == nil {
		s.first = e.behind
	} else {
		e.before.behind = e.behind
	}
	if e.behind == nil {
		s.last = e.before
	} else {
		e.behind.before = e.before
	}
}

// all goes through the timers; each of them may be laid into another slot on the way.
func (s *slot[T]) all() iter.Seq[*entry[T]] {
	return func(yield func(*entry[T]) bool) {
		e := s.first
		for e != nil {
			behind := e.behind
			if !yield(e) {
				return
			}
			e = behind
		}
	}
}
