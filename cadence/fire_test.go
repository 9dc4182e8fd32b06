package cadence

import (
	"fmt"
	"strings"
	"testing"

	"escapement/api"
	"escapement/disk"
	"escapement/durable"
	"escapement/engine"
)

// P18.4: what is fired into a store.

// No store, and stores that nobody has opened: nothing is answered, and nothing has changed.
func TestFireNoStore(t *testing.T) {
	b := with(t, minutely("a"), minutely("b"), from(minutely("late"), 70000))
	fires(t, "P18.4", b, at(t, 660), "a 660 0, b 660 0")
	e := engine.New()
	e.Do(tick(60000))
	e.Do(submit(small(0), "a@60000"))
	stores := []*durable.Store{nil, {}, {Engine: e}, {Engine: new(engine.Engine)}}
	for _, s := range stores {
		leaves(t, b, func() {
			if list, code := b.Fire(s); len(list) != 0 || code != api.ErrArg {
				t.Errorf("R1: Fire: %+v, %d", list, code)
			}
		})
	}
	if list, code := New().Fire(nil); len(list) != 0 || code != api.ErrArg {
		t.Errorf("P18.4: Fire of an empty book: %+v, %d", list, code)
	}
}

// What is laid into the journal: of each that is due its plan and its key, by rising names, and nothing else.
func TestFireLaid(t *testing.T) {
	d := empty(t, big)
	s := opened(t, d)
	pass(t, s, tick(1000000))
	x := small(5)
	x.Nodes[0].Beat, x.Nodes[0].Jitter, x.Deadline = 3, 7, 1<<40
	list := []api.Schedule{doing(every("c", "*/5 * * * *"), wide(3)), nightly(), every("never", "0 0 30 2 *"), from(every("late", "*/5 * * * *"), 999901), doing(from(every("0", "0 0 1 1 *"), 0), x)}
	b := with(t, list...)
	fired := fires(t, "P18.4", b, s, "0 0 0, c 999900 0, nightly 959400 0")
	want := []api.Op{tick(1000000), submit(x, "0@0"), submit(wide(3), "c@999900"), submit(small(0), "nightly@959400")}
	if got := laidOps(t, d); told(got) != told(want) {
		t.Errorf("P18.4: laid were %+v; want %+v", got, want)
	}
	e := engine.New()
	for i, o := range want {
		a := e.Do(o)
		if i > 0 && told(fired[i-1].Answer) != told(a) {
			t.Errorf("P18.4: the answer is %+v; an engine says %+v", fired[i-1].Answer, a)
		}
	}
	if got := s.State(); told(got) != told(e.State()) || got.Now != 1000000 {
		t.Errorf("P18.4: %+v; want %+v", got, e.State())
	}
	ahead := whole(d)
	fires(t, "P18.4", b, s, "")
	if whole(d) != ahead {
		t.Error("P18.4: nothing was due, and something is laid")
	}
	// Another book with the same: Again of each, and nothing is laid.
	for i, f := range fires(t, "P18.6", with(t, list...), s, "0 0 0, c 999900 0, nightly 959400 0") {
		if told(f.Answer) != told(api.Answer{Run: i + 1, Again: true}) {
			t.Errorf("P18.6: %+v", f)
		}
	}
	if whole(d) != ahead {
		t.Error("P18.6: all was there, and something is laid")
	}
}

// The clock goes on: of what was missed the last time alone is fired.
func TestFireMissed(t *testing.T) {
	s := at(t, 0)
	b := with(t, every("a", "*/10 * * * *"), nightly())
	fires(t, "P18.4", b, s, "a 0 0")
	for _, x := range []struct {
		ticks int
		want  string
	}{{599, ""}, {1, "a 600 0"}, {0, ""}, {59, ""}, {5000, "a 5400 0"}, {day - 5659, "a 86400 0, nightly 9000 0"}, {5 * day, "a 518400 0, nightly 441000 0"}, {9000, "a 527400 0, nightly 527400 0"}} {
		pass(t, s, tick(x.ticks))
		fires(t, "P18.4", b, s, x.want)
		fires(t, "P18.4", b, s, "")
	}
	keys := []string{}
	for _, r := range s.State().Runs {
		keys = append(keys, r.Key)
	}
	if got := strings.Join(keys, " "); got != "a@0 a@600 a@5400 a@86400 nightly@9000 a@518400 nightly@441000 a@527400 nightly@527400" {
		t.Errorf("P18.4: the keys are %s", got)
	}
}

// The longest key has forty bytes; at the last times of all.
func TestFireLongestKey(t *testing.T) {
	name := strings.Repeat("z", 20)
	p := small(0)
	p.Deadline = 1
	b := with(t, doing(minutely(name), p))
	s := at(t, last)
	fires(t, "P18.4", b, s, fmt.Sprint(name, " 4611686018427387900 0"))
	if r, _ := s.Run(1); r.Key != name+"@4611686018427387900" || len(r.Key) != api.MaxKey {
		t.Errorf("P18.4: the key is %q", r.Key)
	}
	b = with(t, doing(minutely(name), p))
	s = at(t, api.MaxTime)
	fires(t, "P18.4", b, s, fmt.Sprint(name, " 4611686018427387900 143"))
	due(t, "P18.4", b, api.MaxTime, fmt.Sprint(name, " 4611686018427387900"))
}

// trouble is a store into which three schedules, a, m and z, are fired, each at each minute; m has a plan of its own.
type trouble struct {
	what  string
	d     *disk.Disk
	ahead []api.Op // what the store is told first
	arm   int      // the power goes behind so many calls; below 0: it does not
	now   int
	m     api.Plan
	codes [3]api.Errno
}

// many are submissions of plans, so many.
func many(count int, p api.Plan) (list []api.Op) {
	for range count {
		list = append(list, submit(p, ""))
	}
	return list
}

func troubles(t *testing.T) []trouble {
	t.Helper()
	// A segment, its head and an image without a byte have 105 bytes, the record of the tick 20, those of a and z 39 each, that of m, with two nodes, 53.
	room := func(bytes int) *disk.Disk { return empty(t, 105+20+bytes) }
	full := empty(t, big)
	full.Create(api.MaxCount)
	full.Sync()
	return []trouble{
		{"all pass", empty(t, big), []api.Op{tick(660)}, -1, 660, small(1), [3]api.Errno{}},
		{"again", empty(t, big), []api.Op{tick(660), submit(wide(2), "m@660")}, -1, 660, wide(2), [3]api.Errno{}},
		{"key", empty(t, big), []api.Op{tick(660), submit(wide(2), "m@660")}, -1, 660, wide(3), [3]api.Errno{0, api.ErrEngineKey, 0}},
		{"key of the first", empty(t, big), []api.Op{tick(660), submit(wide(2), "a@660")}, -1, 660, wide(3), [3]api.Errno{api.ErrEngineKey, 0, 0}},
		{"keys of all", empty(t, big), []api.Op{tick(660), submit(wide(2), "a@660"), submit(wide(2), "m@660"), submit(wide(2), "z@660")}, -1, 660, wide(3), [3]api.Errno{api.ErrEngineKey, api.ErrEngineKey, api.ErrEngineKey}},
		{"tasks", empty(t, big), append(many(16, wide(63)), many(1, wide(12))...), -1, 0, wide(2), [3]api.Errno{0, 0, 0}},
		{"too many tasks", empty(t, big), append(many(16, wide(63)), many(1, wide(13))...), -1, 0, wide(3), [3]api.Errno{0, api.ErrEngineFull, 0}},
		{"runs", empty(t, big), many(254, small(0)), -1, 0, small(1), [3]api.Errno{0, 0, api.ErrEngineFull}},
		{"runs, and again", empty(t, big), append(many(255, small(0)), submit(small(1), "m@0")), -1, 0, small(1), [3]api.Errno{api.ErrEngineFull, 0, api.ErrEngineFull}},
		{"numbers", standing(t, big, api.State{NextRun: api.MaxCount, NextToken: 1}), nil, -1, 0, small(1), [3]api.Errno{0, api.ErrEngineNumber, api.ErrEngineNumber}},
		{"no number", standing(t, big, api.State{NextRun: api.MaxCount + 1, NextToken: 1}), nil, -1, 0, small(1), [3]api.Errno{api.ErrEngineNumber, api.ErrEngineNumber, api.ErrEngineNumber}},
		{"no segment", full, nil, -1, 0, small(1), [3]api.Errno{api.ErrJournalNumber, api.ErrJournalNumber, api.ErrJournalNumber}},
		{"room for all", room(39 + 39 + 53), []api.Op{tick(660)}, -1, 660, wide(2), [3]api.Errno{}},
		{"room for the small", room(39 + 39 + 52), []api.Op{tick(660)}, -1, 660, wide(2), [3]api.Errno{0, 0, api.ErrDiskFull}},
		{"none for the great", room(39 + 39), []api.Op{tick(660)}, -1, 660, wide(2), [3]api.Errno{0, api.ErrDiskFull, 0}},
		{"room for none", room(38), []api.Op{tick(660)}, -1, 660, wide(2), [3]api.Errno{api.ErrDiskFull, api.ErrDiskFull, api.ErrDiskFull}},
		{"off at first", empty(t, big), []api.Op{tick(660)}, 0, 660, wide(2), [3]api.Errno{api.ErrDiskDown, api.ErrDurableDead, api.ErrDurableDead}},
		{"off in a's Sync", empty(t, big), []api.Op{tick(660)}, 1, 660, wide(2), [3]api.Errno{api.ErrDiskDown, api.ErrDurableDead, api.ErrDurableDead}},
		{"off in m's Append", empty(t, big), []api.Op{tick(660)}, 2, 660, wide(2), [3]api.Errno{0, api.ErrDiskDown, api.ErrDurableDead}},
		{"off in m's Sync", empty(t, big), []api.Op{tick(660)}, 3, 660, wide(2), [3]api.Errno{0, api.ErrDiskDown, api.ErrDurableDead}},
		{"off at last", empty(t, big), []api.Op{tick(660)}, 5, 660, wide(2), [3]api.Errno{0, 0, api.ErrDiskDown}},
		{"off behind all", empty(t, big), []api.Op{tick(660)}, 6, 660, wide(2), [3]api.Errno{}},
		{"off in z's, m again", empty(t, big), []api.Op{tick(660), submit(wide(2), "m@660")}, 2, 660, wide(2), [3]api.Errno{0, 0, api.ErrDiskDown}},
	}
}

// Whatever the codes are: it goes on; what was answered OK is remembered, and the rest is still due.
func TestFireCodes(t *testing.T) {
	for _, x := range troubles(t) {
		k := on(t, "P18.4, "+x.what, x.d, 1)
		k.add(0, minutely("z"))
		k.add(0, doing(minutely("m"), x.m))
		k.add(0, minutely("a"))
		pass(t, k.s, x.ahead...)
		pass(t, k.other, x.ahead...)
		if x.arm >= 0 {
			k.arm(x.arm)
		}
		fired, rest := []string{}, []string{}
		for i, name := range []string{"a", "m", "z"} {
			fired = append(fired, fmt.Sprintf("%s %d %d", name, x.now, x.codes[i]))
			if x.codes[i] != api.OK {
				rest = append(rest, fmt.Sprintf("%s %d", name, x.now))
			}
		}
		if got := brief(k.fire(0)); got != strings.Join(fired, ", ") {
			t.Errorf("P18.4, %s: %s; want %s", x.what, got, strings.Join(fired, ", "))
		}
		due(t, "P18.4, "+x.what, k.books[0], x.now, strings.Join(rest, ", "))
		due(t, "P18.4, "+x.what, k.books[0], x.now+60, fmt.Sprintf("a %[1]d, m %[1]d, z %[1]d", x.now+60))
	}
}

// A deadline that lies behind the last tick: that schedule alone is refused.
func TestFireTime(t *testing.T) {
	far := small(1)
	far.Deadline = 101
	b := with(t, minutely("a"), doing(minutely("m"), far), minutely("z"))
	s := at(t, api.MaxTime-100)
	fires(t, "P18.4", b, s, "a 4611686018427387780 0, m 4611686018427387780 143, z 4611686018427387780 0")
	fires(t, "P18.4", b, s, "m 4611686018427387780 143")
	due(t, "P18.4", b, s.Now(), "m 4611686018427387780")
}

// A store that was dead ahead of Fire tells its clock still: what is due there is asked, and refused.
func TestFireDead(t *testing.T) {
	d := empty(t, big)
	s := opened(t, d)
	pass(t, s, tick(700))
	d.Arm(0)
	s.Do(tick(60))
	b := with(t, minutely("a"), minutely("b"), from(minutely("c"), 720))
	leaves(t, b, func() {
		fires(t, "P18.4", b, s, "a 660 170, b 660 170")
	})
	d.Crash([]int{1000})
	s = opened(t, d)
	fires(t, "P18.4", b, s, "a 720 0, b 720 0, c 720 0")
}

// What was refused once is fired when it may be: the same time, or the last one then.
func TestFireAgain(t *testing.T) {
	s := at(t, 660, submit(wide(2), "m@660"))
	b := with(t, minutely("m"), nightly())
	fires(t, "P18.4", b, s, "m 660 141")
	fires(t, "P18.4", b, s, "m 660 141")
	pass(t, s, cancel(1), forget(1))
	if f := fires(t, "P18.4", b, s, "m 660 0"); f[0].Answer.Run != 2 || f[0].Answer.Again {
		t.Errorf("P18.4: %+v", f)
	}
	pass(t, s, tick(60), submit(wide(2), "m@720"))
	fires(t, "P18.4", b, s, "m 720 141")
	pass(t, s, tick(60))
	fires(t, "P18.4", b, s, "m 780 0")
	due(t, "P18.4", b, 720, "")
}
