package queue

import (
	"fmt"
	"iter"
	"math/rand"
	"slices"
	"strings"
	"testing"

	"escapement/api"
)

// pair is a thing of a queue of texts, behind its number.
type pair struct {
	number int
	thing  string
}

// The model has the chapter's words: places, and a list of things as they were
// pushed, which is gone through from its begin whenever one is looked for.
type model struct {
	places, given int
	list          []pair
}

func newModel(places int) *model { return &model{places: places} }

func (m *model) find(k string) int {
	return slices.IndexFunc(m.list, func(p pair) bool { return p.thing == k })
}

func (m *model) Push(k string) (int, api.Errno) {
	if m.find(k) >= 0 {
		return 0, 81
	}
	if len(m.list) == m.places {
		return 0, 82
	}
	m.given++
	m.list = append(m.list, pair{m.given, k})
	return m.given, 0
}

func (m *model) Pop() (string, bool) {
	k, ok := m.Front()
	if ok {
		m.Remove(k)
	}
	return k, ok
}

func (m *model) Front() (string, bool) {
	for _, p := range m.list {
		return p.thing, true
	}
	return "", false
}

func (m *model) Remove(k string) api.Errno {
	var rest []pair
	for _, p := range m.list {
		if p.thing != k {
			rest = append(rest, p)
		}
	}
	if len(rest) == len(m.list) {
		return 83
	}
	m.list = rest
	return 0
}

func (m *model) Ahead(k string) (int, api.Errno) {
	if n := m.find(k); n >= 0 {
		return n, 0
	}
	return 0, 83
}

func (m *model) Len() int { return len(m.list) }

func (m *model) All() iter.Seq2[int, string] {
	list := slices.Clone(m.list)
	return func(yield func(int, string) bool) {
		for i := 0; i < len(list) && yield(list[i].number, list[i].thing); i++ {
		}
	}
}

// drive is what both the queue and the model are.
type drive interface {
	Push(k string) (int, api.Errno)
	Pop() (string, bool)
	Front() (string, bool)
	Remove(k string) api.Errno
	Ahead(k string) (int, api.Errno)
	Len() int
	All() iter.Seq2[int, string]
}

// call is a call with its name; it tells its answer as a text.
type call struct {
	name string
	do   func(d drive) string
}

func push(k string) call {
	return call{"Push(" + k + ")", func(d drive) string {
		n, code := d.Push(k)
		return fmt.Sprint(n, " ", int(code))
	}}
}

func pop() call {
	return call{"Pop()", func(d drive) string {
		k, ok := d.Pop()
		return fmt.Sprintf("%q %v", k, ok)
	}}
}

func front() call {
	return call{"Front()", func(d drive) string {
		k, ok := d.Front()
		return fmt.Sprintf("%q %v", k, ok)
	}}
}

func remove(k string) call {
	return call{"Remove(" + k + ")", func(d drive) string { return fmt.Sprint(int(d.Remove(k))) }}
}

func ahead(k string) call {
	return call{"Ahead(" + k + ")", func(d drive) string {
		n, code := d.Ahead(k)
		return fmt.Sprint(n, " ", int(code))
	}}
}

func length() call {
	return call{"Len()", func(d drive) string { return fmt.Sprint(d.Len()) }}
}

func all() call {
	return call{"All()", func(d drive) string { return tell(pairs(d.All())) }}
}

// pairs are what an All goes through.
func pairs(s iter.Seq2[int, string]) []pair {
	var list []pair
	for n, k := range s {
		list = append(list, pair{n, k})
	}
	return list
}

func tell(list []pair) string {
	var b strings.Builder
	b.WriteString("[")
	for _, p := range list {
		fmt.Fprintf(&b, "(%d %s)", p.number, p.thing)
	}
	return b.String() + "]"
}

// whole tells all that can be seen of a queue to which some of these things were told.
func whole(d drive, things ...string) string {
	var b strings.Builder
	fmt.Fprint(&b, "Len ", d.Len(), " Front ", front().do(d), " All ", all().do(d), " Ahead")
	for _, k := range things {
		b.WriteString(" " + k + ": " + ahead(k).do(d))
	}
	return b.String()
}

func fresh(t *testing.T, places int) *Queue[string] {
	t.Helper()
	q, code := New[string](places)
	if q == nil || code != api.OK {
		t.Fatalf("P8.1: New(%d): %v, %d", places, q, code)
	}
	return q
}

// filled is a queue to which these things were pushed.
func filled(t *testing.T, places int, things ...string) *Queue[string] {
	t.Helper()
	q := fresh(t, places)
	for i, k := range things {
		if n, code := q.Push(k); n != i+1 || code != api.OK {
			t.Fatalf("P8.2: Push(%s): %d, %d; want %d, 0", k, n, code, i+1)
		}
	}
	return q
}

// step is a call and its answer.
type step struct {
	call
	want string
}

// play does steps one behind the other, and holds each answer against what is wanted.
func play(t *testing.T, promise string, d drive, steps ...step) {
	t.Helper()
	for i, s := range steps {
		if got := s.do(d); got != s.want {
			t.Errorf("%s: step %d, %s: %s; want %s", promise, i, s.name, got, s.want)
		}
	}
}

// leaves holds that a call is answered so, and changes nothing.
func leaves(t *testing.T, promise string, d drive, c call, want string) {
	t.Helper()
	things := []string{"", "a", "b", "c", "d", "e", "no"}
	before := whole(d, things...)
	if got := c.do(d); got != want {
		t.Errorf("%s: %s: %s; want %s", promise, c.name, got, want)
	}
	if then := whole(d, things...); then != before {
		t.Errorf("%s: %s changes something:\n%s\nahead of it:\n%s", promise, c.name, then, before)
	}
}

func chance(seed int64) *rand.Rand { return rand.New(rand.NewSource(seed)) }
