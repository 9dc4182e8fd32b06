package cadence

import (
	"fmt"
	"math"
	"math/rand"
	"slices"
	"strings"
	"testing"

	"escapement/api"
)

func chance(seed int) *rand.Rand { return rand.New(rand.NewSource(int64(seed))) }

// P18.1: schedules that are put in, taken out, and told.

func TestNew(t *testing.T) {
	b := New()
	if b == nil || len(b.Names()) != 0 {
		t.Fatalf("P18.1: %+v", b)
	}
	noNext(t, b, math.MinInt, -1, 0, 1000000, api.MaxTime, math.MaxInt)
	for _, now := range []int{math.MinInt, -1, 0, 1000000, api.MaxTime, math.MaxInt} {
		due(t, "P18.1", b, now, "")
	}
	is(t, "P18.1", b.Drop(""), api.ErrCadenceNone)
	is(t, "P18.1", b.Drop("a"), api.ErrCadenceNone)
	d := empty(t, big)
	s := opened(t, d)
	ahead := whole(d)
	fires(t, "P18.4", b, s, "")
	if whole(d) != ahead {
		t.Error("P18.4: an empty book has laid something")
	}
}

// The chapter's table, line by line.
func TestExamples(t *testing.T) {
	b := New()
	is(t, "P18.1", b.Add(nightly()), api.OK)
	is(t, "P18.1", b.Add(nightly()), api.ErrCadenceName)
	if got := told(b.Names()); got != "[nightly]" {
		t.Errorf("P18.1: %s", got)
	}
	noNodes := api.Plan{Name: "p", Deadline: 100}
	is(t, "P18.1", b.Add(api.Schedule{Name: "Nightly"}), api.ErrCadenceName)
	is(t, "P18.1", b.Add(api.Schedule{Name: "x", Cron: "30 2 * *"}), api.ErrCronWords)
	is(t, "P18.1", b.Add(doing(minutely("x"), noNodes)), api.ErrPlanSize)
	is(t, "P18.1", b.Add(from(minutely("x"), -1)), api.ErrCadenceTime)
	due(t, "P18.3", b, 8999, "")
	due(t, "P18.3", b, 9000, "nightly 9000")
	due(t, "P18.3", b, 1000000, "nightly 959400")
	due(t, "P18.3", b, -1, "")
	nexts(t, b, -5, 9000)
	nexts(t, b, 9000, 95400)
	nexts(t, b, 959399, 959400)
	nexts(t, b, 959400, 1045800)
	list, code := b.Fire(nil)
	if len(list) != 0 || code != api.ErrArg {
		t.Errorf("P18.4: %+v, %d", list, code)
	}
	s := at(t, 1000000)
	if a := fires(t, "P18.4", b, s, "nightly 959400 0")[0].Answer; a.Run != 1 || a.Again {
		t.Errorf("P18.4: %+v", a)
	}
	if r, _ := s.Run(1); r.Key != "nightly@959400" {
		t.Errorf("P18.4: %+v", r)
	}
	fires(t, "P18.4", b, s, "")
	due(t, "P18.3", b, 1045799, "")
	due(t, "P18.3", b, 1045800, "nightly 1045800")
	other := with(t, nightly())
	if a := fires(t, "P18.6", other, s, "nightly 959400 0")[0].Answer; told(a) != told(api.Answer{Run: 1, Again: true}) {
		t.Errorf("P18.6: %+v", a)
	}
	third := with(t, doing(nightly(), small(3)))
	fires(t, "P18.6", third, s, "nightly 959400 141")
	due(t, "P18.4", third, 1000000, "nightly 959400")
	is(t, "P18.1", b.Drop("nightly"), api.OK)
	is(t, "P18.1", b.Drop("nightly"), api.ErrCadenceNone)
	is(t, "P18.1", b.Add(nightly()), api.OK)
	due(t, "P18.1", b, 1000000, "nightly 959400")
	none := with(t, every("x", "0 0 30 2 *"))
	noNext(t, none, 0)
	due(t, "P18.3", none, api.MaxTime, "")
}

// Each byte, at each end and between others; each length; letters that are more than one byte.
func TestNameMay(t *testing.T) {
	holds := func(name string, may bool) {
		t.Helper()
		b := with(t, minutely("other"))
		want, names := api.ErrCadenceName, []string{"other"}
		if may {
			want, names = api.OK, append(names, name)
			slices.Sort(names)
		}
		if got := b.Add(minutely(name)); got != want || !slices.Equal(b.Names(), names) {
			t.Errorf("P18.1: Add of the name %q: %d; want %d; the names are %q", name, got, want, b.Names())
		}
	}
	for c := range 256 {
		one := string([]byte{byte(c)})
		may := strings.Contains("abcdefghijklmnopqrstuvwxyz0123456789-_.", one)
		for _, name := range []string{one, one + "a", "a" + one, "a" + one + "a", one + strings.Repeat("a", 19), strings.Repeat("a", 19) + one} {
			holds(name, may)
		}
	}
	for length := range 45 {
		holds(strings.Repeat("x", length), length >= 1 && length <= 20)
	}
	for _, name := range []string{"é", "aé", "ａ", "а", "a\u0300", "٣", "\xff\xfe", "a@1", "a b", strings.Repeat("é", 10)} {
		holds(name, false)
	}
}

// plansAtFault has one for each of plan.Check's errors.
func plansAtFault() map[api.Errno]api.Plan {
	list := map[api.Errno]api.Plan{}
	for code, turn := range map[api.Errno]func(p *api.Plan){
		api.OK:              func(p *api.Plan) {},
		api.ErrPlanName:     func(p *api.Plan) { p.Name = "P" },
		api.ErrPlanDeadline: func(p *api.Plan) { p.Deadline = 0 },
		api.ErrPlanSize:     func(p *api.Plan) { p.Nodes = nil },
		api.ErrPlanNode:     func(p *api.Plan) { p.Nodes[1].Name = p.Nodes[0].Name },
		api.ErrPlanField:    func(p *api.Plan) { p.Nodes[1].Budget = 101 },
		api.ErrPlanEdge:     func(p *api.Plan) { p.Nodes[1].Needs = []int{1} },
		api.ErrPlanCycle:    func(p *api.Plan) { p.Nodes[0].After = []int{1} },
	} {
		p := wide(2)
		turn(&p)
		list[code] = p
	}
	return list
}

// firstOf is the first that is not OK.
func firstOf(codes ...api.Errno) api.Errno {
	for _, code := range codes {
		if code != api.OK {
			return code
		}
	}
	return api.OK
}

// filled is a book of so many schedules: one that is called taken, and nightly ones.
func filled(t *testing.T, count int) *Book {
	t.Helper()
	b := with(t, minutely("taken"))
	for i := 1; i < count; i++ {
		is(t, "P18.1", b.Add(every(fmt.Sprint("s", i), "30 2 * * *")), api.OK)
	}
	return b
}

// All faults of Add with one another: the first one is told, and nothing has changed; of a book that has fired, too.
func TestAddOrder(t *testing.T) {
	names := map[string]api.Errno{"new": api.OK, "taken": api.ErrCadenceName, "": api.ErrCadenceName, "New": api.ErrCadenceName}
	crons := map[string]api.Errno{"0 3 * * *": api.OK, "0 3 * *": api.ErrCronWords, "": api.ErrCronWords, "0 3 * * * *": api.ErrCronWords,
		"0 3 * * *" + strings.Repeat(" ", 1016): api.ErrCronWords, "60 3 * * *": api.ErrCronItem, "0 3 * * mon": api.ErrCronItem}
	froms := map[int]api.Errno{0: api.OK, 1: api.OK, api.MaxTime: api.OK, -1: api.ErrCadenceTime, math.MinInt: api.ErrCadenceTime,
		api.MaxTime + 1: api.ErrCadenceTime, math.MaxInt: api.ErrCadenceTime}
	plans := plansAtFault()
	for count, full := range map[int]api.Errno{1: api.OK, 63: api.OK, 64: api.ErrCadenceFull} {
		b := filled(t, count)
		fires(t, "P18.4", b, at(t, 600), "taken 600 0")
		ahead := wholly(b)
		for name, ofName := range names {
			for cron, ofCron := range crons {
				for ofPlan, p := range plans {
					for start, ofFrom := range froms {
						want := firstOf(ofName, ofCron, ofPlan, ofFrom, full)
						if got := b.Add(api.Schedule{Name: name, Cron: cron, Plan: p, From: start}); got != want {
							t.Fatalf("P18.1: %d schedules, Add of %q, %q, plan %d, from %d: %d; want %d", count, name, cron, ofPlan, start, got, want)
						}
						if want == api.OK {
							is(t, "P18.1", b.Drop(name), api.OK)
						}
					}
				}
			}
			if got := wholly(b); got != ahead {
				t.Fatalf("P18.9: the book has become %s; it was %s", got, ahead)
			}
		}
	}
}

// The last place, and one more; a place that was left is taken again, whatever the name.
func TestFull(t *testing.T) {
	b := New()
	for i := range 64 {
		is(t, "P18.1", b.Add(minutely(fmt.Sprint("s", i))), api.OK)
	}
	if len(b.Names()) != 64 || len(b.Due(0)) != 64 {
		t.Errorf("P18.1: %q", b.Names())
	}
	leaves(t, b, func() {
		is(t, "P18.1", b.Add(minutely("more")), api.ErrCadenceFull)
		is(t, "P18.1", b.Add(minutely("s5")), api.ErrCadenceName)
		is(t, "P18.1", b.Add(every("more", "")), api.ErrCronWords)
		is(t, "P18.1", b.Add(doing(minutely("more"), api.Plan{})), api.ErrPlanName)
		is(t, "P18.1", b.Add(from(minutely("more"), -1)), api.ErrCadenceTime)
		is(t, "P18.1", b.Drop("more"), api.ErrCadenceNone)
	})
	is(t, "P18.1", b.Drop("s5"), api.OK)
	is(t, "P18.1", b.Add(minutely("more")), api.OK)
	is(t, "P18.1", b.Add(minutely("s5")), api.ErrCadenceFull)
	for i, name := range b.Names() {
		is(t, "P18.1", b.Drop(name), api.OK)
		if len(b.Names()) != 63-i {
			t.Errorf("P18.1: behind %d drops: %q", i+1, b.Names())
		}
	}
	is(t, "P18.1", b.Add(minutely("s5")), api.OK)
}

// What is dropped is gone, with what was fired of it; the others stay, with what was fired of them.
func TestDrop(t *testing.T) {
	b := with(t, minutely("a"), minutely("b"), minutely("c"))
	s := at(t, 660)
	fires(t, "P18.4", b, s, "a 660 0, b 660 0, c 660 0")
	leaves(t, b, func() {
		for _, name := range []string{"", "d", "A", "aa", "a ", "a@660", "\xff", strings.Repeat("a", 21), strings.Repeat("a", 100000)} {
			is(t, "P18.1", b.Drop(name), api.ErrCadenceNone)
		}
	})
	is(t, "P18.1", b.Drop("b"), api.OK)
	leaves(t, b, func() { is(t, "P18.1", b.Drop("b"), api.ErrCadenceNone) })
	if got := told(b.Names()); got != "[a c]" {
		t.Errorf("P18.1: %s", got)
	}
	due(t, "P18.1", b, 719, "")
	due(t, "P18.1", b, 720, "a 720, c 720")
	is(t, "P18.1", b.Add(minutely("b")), api.OK)
	due(t, "P18.1", b, 719, "b 660")
	due(t, "P18.1", b, 60, "b 60")
	is(t, "P18.1", b.Drop("a"), api.OK)
	is(t, "P18.1", b.Add(every("a", "*/5 * * * *")), api.OK)
	due(t, "P18.1", b, 719, "a 600, b 660")
	nexts(t, b, 660, 720)
	is(t, "P18.1", b.Drop("b"), api.OK)
	is(t, "P18.1", b.Drop("c"), api.OK)
	nexts(t, b, 660, 900)
	is(t, "P18.1", b.Drop("a"), api.OK)
	noNext(t, b, 660)
}

// In whichever order they were put in, names rise byte by byte; what is due and what is fired comes so, too.
func TestNamesRise(t *testing.T) {
	rising := []string{"-", ".x", "0", "10", "9", "_", "a", "a-", "aa", "b", "z"}
	order := slices.Clone(rising)
	r := chance(1)
	for range 300 {
		r.Shuffle(len(order), func(i, j int) { order[i], order[j] = order[j], order[i] })
		b := New()
		for _, name := range order {
			is(t, "P18.1", b.Add(minutely(name)), api.OK)
		}
		var names []string
		for _, f := range b.Due(60) {
			names = append(names, f.Name)
		}
		if got := b.Names(); !slices.Equal(got, rising) || !slices.Equal(names, rising) {
			t.Fatalf("P18.1, P18.3: put in as %q: %q; due are %q", order, got, names)
		}
		list, _ := b.Fire(at(t, 60))
		for i, f := range list {
			if f.Name != rising[i] || f.Answer.Run != i+1 {
				t.Fatalf("P18.4: put in as %q: %s", order, brief(list))
			}
		}
	}
}

// P18.2: the next time, asked at any.

func TestNext(t *testing.T) {
	b := with(t, nightly())
	for _, at := range []int{math.MinInt, math.MinInt + 1, -api.MaxTime, -60, -1, 0, 8940, 8999} {
		nexts(t, b, at, 9000)
	}
	nexts(t, b, 9000, 9000+day)
	nexts(t, b, 9001, 9000+day)
	nexts(t, b, 9000+day-1, 9000+day)
	lastNight := api.MaxTime/day*day + 9000
	if lastNight > api.MaxTime {
		lastNight -= day
	}
	nexts(t, b, lastNight-day, lastNight)
	nexts(t, b, lastNight-1, lastNight)
	noNext(t, b, lastNight, lastNight+1, api.MaxTime-1, api.MaxTime, api.MaxTime+1, math.MaxInt)
	b = with(t, minutely("m"))
	nexts(t, b, math.MinInt, 0)
	nexts(t, b, -1, 0)
	nexts(t, b, 0, 60)
	nexts(t, b, last-1, last)
	noNext(t, b, last, api.MaxTime, api.MaxTime+1, math.MaxInt)
	noNext(t, with(t, every("x", "0 0 30 2 *"), every("y", "0 0 31 4,6,9,11 *")), math.MinInt, -1, 0, 12622780800, api.MaxTime, math.MaxInt)
	leap := with(t, every("x", "0 0 30 2 *"), every("leap", "0 0 29 2 *"))
	nexts(t, leap, 0, 68169600)
	nexts(t, leap, 4107542400, 4233686400)
}

// A From on a time, between two of them, at the first and the last tick.
func TestFrom(t *testing.T) {
	for start, first := range map[int]int{0: 9000, 1: 9000, 8999: 9000, 9000: 9000, 9001: 9000 + day, 50000: 9000 + day, 9000 + day - 1: 9000 + day, 9000 + day: 9000 + day, 9000 + 3*day + 1: 9000 + 4*day} {
		b := with(t, from(nightly(), start))
		for _, at := range []int{math.MinInt, -5, -1, 0, start - 1, first - 1} {
			nexts(t, b, at, first)
			due(t, "P18.3", b, at, "")
		}
		nexts(t, b, first, first+day)
		due(t, "P18.3", b, first, fmt.Sprint("nightly ", first))
		due(t, "P18.3", b, first+day-1, fmt.Sprint("nightly ", first))
		due(t, "P18.3", b, first+day, fmt.Sprint("nightly ", first+day))
	}
	b := with(t, from(minutely("m"), api.MaxTime))
	noNext(t, b, math.MinInt, 0, last-1, last, api.MaxTime, math.MaxInt)
	due(t, "P18.3", b, api.MaxTime, "")
	b = with(t, from(minutely("m"), last+1))
	noNext(t, b, 0, last-1)
	due(t, "P18.3", b, api.MaxTime, "")
	b = with(t, from(minutely("m"), last))
	for _, at := range []int{math.MinInt, 0, last - 60, last - 1} {
		nexts(t, b, at, last)
		due(t, "P18.3", b, at, "")
	}
	noNext(t, b, last)
	for now := last; now <= api.MaxTime; now++ {
		due(t, "P18.3", b, now, fmt.Sprint("m ", last))
	}
}

// P18.3: what is due, asked at any time.

func TestDue(t *testing.T) {
	b := with(t, minutely("m"), nightly(), every("x", "0 0 30 2 *"), from(every("late", "0 * * * *"), 90000))
	for _, now := range []int{math.MinInt, -api.MaxTime, -60, -1, api.MaxTime + 1, api.MaxTime + 60, math.MaxInt} {
		due(t, "P18.3", b, now, "")
	}
	due(t, "P18.3", b, 0, "m 0")
	due(t, "P18.3", b, 59, "m 0")
	due(t, "P18.3", b, 60, "m 60")
	due(t, "P18.3", b, 9000, "m 9000, nightly 9000")
	due(t, "P18.3", b, 89999, "m 89940, nightly 9000")
	due(t, "P18.3", b, 90000, "late 90000, m 90000, nightly 9000")
	due(t, "P18.3", b, 95399, "late 93600, m 95340, nightly 9000")
	lastNight := api.MaxTime/day*day + 9000
	if lastNight > api.MaxTime {
		lastNight -= day
	}
	due(t, "P18.3", b, api.MaxTime, fmt.Sprintf("late %d, m %d, nightly %d", last/3600*3600, last, lastNight))
}

// What was fired is due no more, neither then nor earlier; what comes behind it is.
func TestDueFired(t *testing.T) {
	b := with(t, minutely("m"), nightly())
	next := func(at int) string { n, ok := b.Next(at); return fmt.Sprint(n, ok) }
	ahead := next(0) + next(600) + next(9000)
	fires(t, "P18.4", b, at(t, 659), "m 600 0")
	for _, now := range []int{0, 60, 599, 600, 659} {
		due(t, "P18.3", b, now, "")
	}
	due(t, "P18.3", b, 660, "m 660")
	fires(t, "P18.4", b, at(t, 10000), "m 9960 0, nightly 9000 0")
	for _, now := range []int{0, 660, 9000, 9960, 10019} {
		due(t, "P18.3", b, now, "")
	}
	due(t, "P18.3", b, 10020, "m 10020")
	due(t, "P18.3", b, 95399, "m 95340")
	due(t, "P18.3", b, 95400, "m 95400, nightly 95400")
	if got := next(0) + next(600) + next(9000); got != ahead {
		t.Errorf("P18.2: what was fired is looked at: %s; was %s", got, ahead)
	}
	// A store whose clock stands ahead of what was fired: nothing is due there.
	s := at(t, 600)
	fires(t, "P18.4", b, s, "")
	if len(s.State().Runs) != 0 {
		t.Errorf("P18.4: %+v", s.State())
	}
}

// One book beside the model, at each minute of some days and a tick to both sides.
func TestTimes(t *testing.T) {
	b, m := New(), &model{}
	for _, s := range []api.Schedule{from(every("seven", "*/7 * * * *"), 5000), nightly(), from(every("two", "15 1,13 * * *"), 60000), every("never", "0 0 31 4 *"), from(every("day", "0 0 * * 5"), 1), from(every("late", "59 23 * * *"), 2*day)} {
		is(t, "P18.1", b.Add(s), api.OK)
		m.Add(s)
	}
	for minute := -3; minute < 3*24*60; minute++ {
		for _, now := range []int{60*minute - 1, 60 * minute, 60*minute + 1, 60*minute + minute%60} {
			if now < day || now > 2*day || minute%7 < 2 {
				got, ok := b.Next(now)
				want, there := m.Next(now)
				if got != want || ok != there {
					t.Fatalf("P18.2: Next(%d): %d, %t; want %d, %t", now, got, ok, want, there)
				}
				if got, want := told(b.Due(now)), told(m.Due(now)); got != want {
					t.Fatalf("P18.3: Due(%d): %s; want %s", now, got, want)
				}
			}
		}
	}
}
