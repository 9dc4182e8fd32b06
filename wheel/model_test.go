package wheel

import (
	"fmt"
	"iter"
	"math/rand"
	"slices"
	"strings"
	"testing"

	"escapement/api"
)

// The model has the chapter's words: a time, and a list of timers as they were
// scheduled, which is gone through whole whenever one is looked for.
type model struct {
	now, told int
	list      []Timer[string]
}

func newModel(now int) *model { return &model{now: now} }

func (m *model) Now() int { return m.now }
func (m *model) Len() int { return len(m.list) }

func (m *model) Schedule(due int, x string) (int, api.Errno) {
	if due < m.now || due > 1<<62 {
		return 0, 70
	}
	m.told++
	m.list = append(m.list, Timer[string]{m.told, due, x})
	return m.told, 0
}

func (m *model) Cancel(id int) api.Errno {
	for i, x := range m.list {
		if x.ID == id {
			m.list = slices.Concat(m.list[:i], m.list[i+1:])
			return 0
		}
	}
	return 71
}

func (m *model) Find(id int) (Timer[string], api.Errno) {
	for _, x := range m.list {
		if x.ID == id {
			return x, 0
		}
	}
	return Timer[string]{}, 71
}

// order is the list in the order: a timer is laid ahead of the first that is due later.
func (m *model) order() []Timer[string] {
	var rows []Timer[string]
	for _, x := range m.list {
		at := slices.IndexFunc(rows, func(y Timer[string]) bool { return y.Due > x.Due })
		if at < 0 {
			at = len(rows)
		}
		rows = slices.Insert(rows, at, x)
	}
	return rows
}

func (m *model) Next(to int) (Timer[string], bool) {
	if to < m.now || to > 1<<62 {
		return Timer[string]{}, false
	}
	if rows := m.order(); len(rows) > 0 && rows[0].Due <= to {
		m.Cancel(rows[0].ID)
		m.now = rows[0].Due
		return rows[0], true
	}
	m.now = to
	return Timer[string]{}, false
}

func (m *model) Advance(to int) ([]Timer[string], api.Errno) {
	if to < m.now || to > 1<<62 {
		return nil, 70
	}
	var off []Timer[string]
	for _, x := range m.order() {
		if x.Due <= to {
			off = append(off, x)
			m.Cancel(x.ID)
		}
	}
	m.now = to
	return off, 0
}

func (m *model) All() iter.Seq[Timer[string]] { return slices.Values(m.order()) }

// drive is what both the wheel and the model are.
type drive interface {
	Now() int
	Len() int
	Schedule(due int, x string) (int, api.Errno)
	Cancel(id int) api.Errno
	Find(id int) (Timer[string], api.Errno)
	Next(to int) (Timer[string], bool)
	Advance(to int) ([]Timer[string], api.Errno)
	All() iter.Seq[Timer[string]]
}

// call is a call with its name; it tells its answer as a text.
type call struct {
	name string
	do   func(d drive) string
}

func tell(x Timer[string]) string { return fmt.Sprintf("(%d, %d, %s)", x.ID, x.Due, x.What) }

func tellAll(list []Timer[string]) string {
	var b strings.Builder
	for _, x := range list {
		b.WriteString(tell(x))
	}
	return b.String()
}

func schedule(due int, x string) call {
	return call{fmt.Sprintf("Schedule(%d, %s)", due, x), func(d drive) string {
		id, code := d.Schedule(due, x)
		return fmt.Sprint(id, " ", int(code))
	}}
}

func cancel(id int) call {
	return call{fmt.Sprintf("Cancel(%d)", id), func(d drive) string { return fmt.Sprint(int(d.Cancel(id))) }}
}

func find(id int) call {
	return call{fmt.Sprintf("Find(%d)", id), func(d drive) string {
		x, code := d.Find(id)
		return fmt.Sprint(tell(x), " ", int(code))
	}}
}

func next(to int) call {
	return call{fmt.Sprintf("Next(%d)", to), func(d drive) string {
		x, ok := d.Next(to)
		return fmt.Sprint(tell(x), " ", ok)
	}}
}

func advance(to int) call {
	return call{fmt.Sprintf("Advance(%d)", to), func(d drive) string {
		list, code := d.Advance(to)
		return fmt.Sprint("[", tellAll(list), "] ", int(code))
	}}
}

func all() call {
	return call{"All()", func(d drive) string { return "[" + tellAll(slices.Collect(d.All())) + "]" }}
}

func now() call { return call{"Now()", func(d drive) string { return fmt.Sprint(d.Now()) }} }
func length() call {
	return call{"Len()", func(d drive) string { return fmt.Sprint(d.Len()) }}
}

// whole tells all that can be seen of a wheel that was told at most so many timers.
func whole(d drive, told int) string {
	var b strings.Builder
	fmt.Fprint(&b, "Now ", d.Now(), " Len ", d.Len(), " All ", all().do(d), " Find")
	for id := -1; id <= told+1; id++ {
		b.WriteString(" " + find(id).do(d))
	}
	return b.String()
}

func fresh(t *testing.T, now int) *Wheel[string] {
	t.Helper()
	w, code := New[string](now)
	if w == nil || code != api.OK {
		t.Fatalf("P7.1: New(%d): %v, %d", now, w, code)
	}
	return w
}

// step is a call and its answer.
type step struct {
	call
	want string
}

// play does steps one behind the other, and holds each answer against what is wanted.
func play(t *testing.T, promise string, d drive, steps ...step) {
	t.Helper()
	for i, s := range steps {
		if got := s.do(d); got != s.want {
			t.Errorf("%s: step %d, %s: %s; want %s", promise, i, s.name, got, s.want)
		}
	}
}

// refuses holds that a call is answered so, and changes nothing.
func refuses(t *testing.T, promise string, d drive, c call, want string) {
	t.Helper()
	before := whole(d, 9)
	if got := c.do(d); got != want {
		t.Errorf("%s: %s: %s; want %s", promise, c.name, got, want)
	}
	if then := whole(d, 9); then != before {
		t.Errorf("%s: %s changes something:\n%s\nahead of it:\n%s", promise, c.name, then, before)
	}
}

func chance(seed int64) *rand.Rand { return rand.New(rand.NewSource(seed)) }

// edges are times at and beside the ends of all levels' slots.
func edges() []int {
	list := []int{0, 1, 2}
	for k := range 11 {
		unit := 1 << (6 * k)
		for _, n := range []int{1, 2, 63} {
			for d := -1; d <= 1; d++ {
				if x := n*unit + d; n <= 4 || k < 10 {
					list = append(list, x)
				}
			}
		}
	}
	list = append(list, 1<<62-4097, 1<<62-4096, 1<<62-65, 1<<62-64, 1<<62-63, 1<<62-2, 1<<62-1, 1<<62)
	slices.Sort(list)
	return slices.Compact(list)
}
