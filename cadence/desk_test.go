package cadence

import (
	"fmt"
	"math"
	"testing"

	"escapement/api"
	"escapement/disk"
	"escapement/durable"
)

// desk has books beside their models: the books fire into one store, the models into another one, on a disk that is used alike.
type desk struct {
	t       *testing.T
	promise string
	d, twin *disk.Disk
	s       *durable.Store
	other   *durable.Store
	books   []*Book
	models  []*model
	gone    map[int]int    // runs whose Forget was answered OK or ErrDiskDown
	ran     map[string]int // by its key the last run that was there
	story   []string
}

// on is a desk with so many books, and with what a disk holds.
func on(t *testing.T, promise string, d *disk.Disk, books int) *desk {
	t.Helper()
	k := &desk{t: t, promise: promise, d: d, twin: d.Copy(), gone: map[int]int{}, ran: map[string]int{}}
	for range books {
		k.books, k.models = append(k.books, New()), append(k.models, &model{})
	}
	k.open()
	return k
}

func (k *desk) note(format string, words ...any) {
	k.story = append(k.story, fmt.Sprintf(format, words...))
}

func (k *desk) fatal(format string, words ...any) {
	k.t.Helper()
	k.t.Fatalf(k.promise+": "+format+"\nstory: %v", append(words, k.story)...)
}

// open opens both stores anew; the books stay.
func (k *desk) open() {
	k.t.Helper()
	k.note("Open")
	k.s, k.other = opened(k.t, k.d), opened(k.t, k.twin)
	k.alike()
}

func (k *desk) arm(calls int) {
	k.note("Arm %d", calls)
	k.d.Arm(calls)
	k.twin.Arm(calls)
}

func (k *desk) crash(fate ...int) {
	k.note("Crash %v", fate)
	k.d.Crash(fate)
	k.twin.Crash(fate)
}

func (k *desk) do(o api.Op) api.Answer {
	k.t.Helper()
	a, want := k.s.Do(o), k.other.Do(o)
	k.note("Op %d of %d %s: %d", o.Kind, o.Run+o.Ticks, o.Key, a.Code)
	if told(a) != told(want) {
		k.fatal("%+v; want %+v", a, want)
	}
	if o.Kind == api.OpForget && (a.Code == api.OK || a.Code == api.ErrDiskDown) {
		k.gone[o.Run]++
	}
	k.alike()
	return a
}

func (k *desk) add(book int, s api.Schedule) api.Errno {
	k.t.Helper()
	got, want := k.books[book].Add(s), k.models[book].Add(s)
	k.note("%d: Add %s, %s, from %d: %d", book, s.Name, s.Cron, s.From, want)
	if got != want {
		k.fatal("Add: %d; want %d", got, want)
	}
	k.alike()
	return got
}

func (k *desk) drop(book int, name string) api.Errno {
	k.t.Helper()
	got, want := k.books[book].Drop(name), k.models[book].Drop(name)
	k.note("%d: Drop %s: %d", book, name, want)
	if got != want {
		k.fatal("Drop: %d; want %d", got, want)
	}
	k.alike()
	return got
}

func (k *desk) anew(book int) {
	k.note("%d: New", book)
	k.books[book], k.models[book] = New(), &model{}
	k.alike()
}

// fire lets a book fire, and its model; it holds what is answered, and what is due then.
func (k *desk) fire(book int) []api.Fired {
	k.t.Helper()
	b, m := k.books[book], k.models[book]
	now, kept := k.s.Now(), k.s.State().Runs
	list, code := b.Fire(k.s)
	want := m.Fire(k.other)
	k.note("%d: Fire at %d: %s", book, now, brief(want))
	if code != api.OK || told(list) != told(want) {
		k.fatal("Fire: %+v, %d; want %+v", list, code, want)
	}
	k.once(kept, m, list)
	k.alike()
	open := 0
	for _, f := range list {
		if f.Answer.Code != api.OK {
			open++
		}
	}
	if got := b.Due(now); len(got) != open {
		k.fatal("P18.7: behind it %+v is due", got)
	}
	return list
}

// once holds answers against the runs that were kept ahead of them (P18.6).
func (k *desk) once(kept []api.RunState, m *model, list []api.Fired) {
	k.t.Helper()
	for _, f := range list {
		key := fmt.Sprintf("%s@%d", f.Name, f.Time)
		for _, r := range kept {
			if r.Key != key || f.Answer.Code == api.ErrDurableDead {
				continue
			}
			want := api.Answer{Code: api.ErrEngineKey}
			if told(r.Plan) == told(m.lines[m.find(f.Name)].Plan) {
				want = api.Answer{Run: r.ID, Again: true}
			}
			if told(f.Answer) != told(want) {
				k.fatal("P18.6: %s is run %d: %+v; want %+v", key, r.ID, f.Answer, want)
			}
		}
	}
}

// alike holds all books against their models at times near the clock and far from it, and both stores against each other.
func (k *desk) alike() {
	k.t.Helper()
	now := k.s.Now()
	for i, b := range k.books {
		m := k.models[i]
		if got, want := told(b.Names()), told(m.Names()); got != want {
			k.fatal("%d: Names: %s; want %s", i, got, want)
		}
		soon, _ := m.Next(now)
		for _, at := range []int{math.MinInt, -1, now - 1, now, max(soon-1, now), soon, now + 4000} {
			k.asks(i, b, m, at)
		}
	}
	if got, want := told(k.s.State()), told(k.other.State()); got != want {
		k.fatal("the store has %s; want %s", got, want)
	}
	if got, want := whole(k.d), whole(k.twin); got != want {
		k.fatal("the disk has %s; want %s", got, want)
	}
	k.runsOnce()
}

func (k *desk) asks(book int, b *Book, m *model, at int) {
	k.t.Helper()
	got, ok := b.Next(at)
	if want, there := m.Next(at); got != want || ok != there {
		k.fatal("%d: Next(%d): %d, %t; want %d, %t", book, at, got, ok, want, there)
	}
	if got, want := told(b.Due(at)), told(m.Due(at)); got != want {
		k.fatal("%d: Due(%d): %s; want %s", book, at, got, want)
	}
}

// runsOnce holds that a key has one run, and another one only if the first was forgotten.
func (k *desk) runsOnce() {
	k.t.Helper()
	for _, r := range k.s.State().Runs {
		if r.Key == "" {
			continue
		}
		was := k.ran[r.Key]
		if was != 0 && was != r.ID && k.gone[was] == 0 {
			k.fatal("P18.6: %s is run %d, and is run %d", r.Key, was, r.ID)
		}
		k.ran[r.Key] = r.ID
	}
}
