package cadence

import (
	"fmt"
	"math"
	"math/rand"
	"testing"

	"escapement/api"
	"escapement/cron"
)

// What follows, P18.6 to P18.9.

// anySchedule has one of few names and plans, so that books often have the same, and times that come often, once a day, or never; some are none.
func anySchedule(r *rand.Rand) api.Schedule {
	names := []string{"a", "b", "c-1", "d_2", "e.3", "nine", "x"}
	crons := []string{"* * * * *", "*/7 * * * *", "*/20 * * * *", "5,6,7 * * * *", "0 */3 * * *", "30 2 * * *", "0-30/10 1-5 * * *", "0 0 30 2 *"}
	name := r.Intn(len(names))
	s := every(names[name], crons[name])
	if r.Intn(3) == 0 {
		s.Cron = crons[r.Intn(len(crons))]
	}
	if r.Intn(4) == 0 {
		s.Plan = small(1)
	}
	if r.Intn(4) == 0 {
		s.From = r.Intn(day)
	}
	switch r.Intn(30) {
	case 0:
		s.Name = "A"
	case 1:
		s.Cron = []string{"", "60 * * * *"}[r.Intn(2)]
	case 2:
		s.Plan.Nodes = nil
	case 3:
		s.From = []int{-1, math.MinInt, api.MaxTime + 1}[r.Intn(3)]
	}
	return s
}

// P18.6, by hand: two books, losses of power, a run that is cancelled, and one that is forgotten.
func TestOnce(t *testing.T) {
	d := empty(t, big)
	s := opened(t, d)
	pass(t, s, tick(1000000))
	again := func(what string, want api.Answer) {
		t.Helper()
		if a := fires(t, "P18.6, "+what, with(t, nightly()), s, "nightly 959400 0")[0].Answer; a.Run != want.Run || a.Again != want.Again {
			t.Errorf("P18.6, %s: %+v; want %+v", what, a, want)
		}
	}
	first := api.Answer{Run: 1, Again: true}
	again("first", api.Answer{Run: 1})
	again("another book", first)
	d.Crash(nil)
	s = opened(t, d)
	again("behind a loss of power", first)
	// Another expression, and another From, that have the same time: it is the same key.
	b := with(t, from(every("nightly", "*/30 2,3 * * *"), 959400))
	if a := fires(t, "P18.6", b, at(t, 959400), "nightly 959400 0")[0].Answer; a.Again {
		t.Errorf("P18.6: another store has this run, too: %+v", a)
	}
	b = with(t, from(every("nightly", "30 2 12 1 *"), 959400))
	if a := fires(t, "P18.6", b, s, "nightly 959400 0")[0].Answer; a.Run != 1 || !a.Again {
		t.Errorf("P18.6: %+v", a)
	}
	// Another name, or another time, is another run.
	fires(t, "P18.6", with(t, every("nightly2", "30 2 * * *")), s, "nightly2 959400 0")
	fires(t, "P18.6", with(t, every("nightly", "31 2 * * *")), s, "nightly 959460 0")
	if n := len(s.State().Runs); n != 3 {
		t.Errorf("P18.6: there are %d runs", n)
	}
	pass(t, s, poll(0))
	again("a node is leased", first)
	pass(t, s, cancel(1))
	again("cancelled", first)
	is(t, "P17.3", s.Compact(), api.OK)
	d.Crash([]int{1, 1, 1})
	s = opened(t, d)
	again("cancelled, behind a loss of power", first)
	other := with(t, doing(nightly(), small(3)))
	fires(t, "P18.6", other, s, "nightly 959400 141")
	pass(t, s, forget(1))
	if a := fires(t, "P18.6", other, s, "nightly 959400 0")[0].Answer; a.Run != 4 || a.Again {
		t.Errorf("P18.6: behind the forgetting: %+v", a)
	}
	fires(t, "P18.6", with(t, nightly()), s, "nightly 959400 141")
	pass(t, s, tick(100), forget(4))
	again("forgotten again", api.Answer{Run: 5})
	// A key that somebody else has submitted is the same key.
	pass(t, s, tick(day), submit(small(0), "nightly@1045800"))
	if a := fires(t, "P18.6", with(t, nightly()), s, "nightly 1045800 0")[0].Answer; !a.Again || a.Run != 6 {
		t.Errorf("P18.6: %+v", a)
	}
}

// P18.6: the power goes in each call of a Fire, with fates of every kind; then the same book fires, and a new one: each time of each schedule is one run.
func TestOnceEveryCall(t *testing.T) {
	list := []api.Schedule{minutely("a"), doing(minutely("b"), wide(2)), nightly(), minutely("z")}
	fates := [][]int{nil, {1}, {2}, {20}, {60}, {math.MaxInt}, {math.MaxInt, math.MaxInt}}
	keys := map[string]int{"a@9960": 0, "b@9960": 0, "nightly@9000": 0, "z@9960": 0}
	for fresh := range 2 {
		for calls := range 10 {
			for _, fate := range fates {
				k := on(t, fmt.Sprintf("P18.6, call %d, fate %v", calls, fate), empty(t, big), 3)
				for _, s := range list {
					k.add(0, s)
					k.add(1, s)
					k.add(2, s)
				}
				k.do(tick(10000))
				if fresh == 1 {
					// A store that is opened anew lays a segment of its own: one call more.
					k.open()
				}
				k.arm(calls)
				k.fire(0)
				k.crash(fate...)
				k.open()
				k.fire(0)
				for _, f := range k.fire(1) {
					if !f.Answer.Again {
						k.fatal("it was fired already: %+v", f)
					}
				}
				k.crash(fate...)
				k.open()
				k.fire(2)
				runs := k.s.State().Runs
				for _, r := range runs {
					if _, there := keys[r.Key]; !there {
						k.fatal("no schedule has the key %s", r.Key)
					}
				}
				if len(runs) != len(keys) {
					k.fatal("there are %d runs", len(runs))
				}
			}
		}
	}
}

// holdsDue looks at what a book tells by the expressions alone: P18.7 and P18.8.
func holdsDue(t *testing.T, b *Book, all map[string]api.Schedule, now int) {
	t.Helper()
	list := b.Due(now)
	seen := map[string]int{}
	for _, f := range list {
		s := all[f.Name]
		x, _ := cron.Parse(s.Cron)
		if seen[f.Name]++; seen[f.Name] > 1 {
			t.Fatalf("P18.7: Due(%d) tells %s twice", now, f.Name)
		}
		if !x.Matches(f.Time) || f.Time < s.From || f.Time > now {
			t.Fatalf("P18.7: Due(%d) tells %s %d (from %d)", now, f.Name, f.Time, s.From)
		}
		if next, ok := x.Next(f.Time); ok && next <= now {
			t.Fatalf("P18.7: Due(%d) tells %s %d, but %d is later", now, f.Name, f.Time, next)
		}
	}
	next, ok := b.Next(now)
	if !ok {
		next = api.MaxTime + 1
	}
	if now >= next {
		t.Fatalf("P18.2: Next(%d) is %d", now, next)
	}
	there := map[string]bool{}
	for _, f := range list {
		there[brief([]api.Fired{f})] = true
	}
	for _, then := range []int{now, now + 1, now + 59, now/2 + next/2, next - 60, next - 1} {
		if then < now || then >= next {
			continue
		}
		for _, f := range b.Due(then) {
			if !there[brief([]api.Fired{f})] {
				t.Fatalf("P18.8: Next(%d) is %d, but at %d %s %d is due; at %d there is %+v", now, next, then, f.Name, f.Time, now, list)
			}
		}
	}
}

// P18.7, P18.8: books by chance, of all expressions, at times near and far.
func TestDueByChance(t *testing.T) {
	r := chance(7)
	word := func(least, greatest int) string {
		n := least + r.Intn(greatest-least+1)
		return []string{"*", "*", "*", fmt.Sprint(n), fmt.Sprint("*/", max(1, n)), fmt.Sprint(n, "-", greatest)}[r.Intn(6)]
	}
	for range 200 {
		b, all := New(), map[string]api.Schedule{}
		for i := range 1 + r.Intn(5) {
			text := fmt.Sprint(word(0, 59), " ", word(0, 23), " ", word(1, 31), " ", word(1, 12), " ", word(0, 6))
			s := from(every(fmt.Sprint("s", i), text), max(0, r.Intn(1<<31)-1<<30))
			if b.Add(s) != api.OK {
				t.Fatalf("%+v", s)
			}
			all[s.Name] = s
		}
		for range 20 {
			now := []int{r.Intn(1 << 31), r.Intn(1<<31) / 60 * 60, r.Intn(api.MaxTime), -r.Intn(100), api.MaxTime - r.Intn(100000)}[r.Intn(5)]
			holdsDue(t, b, all, now)
			if now < 0 || r.Intn(3) > 0 {
				continue
			}
			s := at(t, min(now, api.MaxTime-1000))
			list, code := b.Fire(s)
			for _, f := range list {
				is(t, "P18.4", f.Answer.Code, api.OK)
			}
			is(t, "P18.4", code, api.OK)
			due(t, "P18.7", b, s.Now(), "")
			holdsDue(t, b, all, now)
		}
	}
}

// P18.9, and all of it: three books over one store beside their models, by chance: what is put in, dropped and fired, runs that are cancelled and forgotten, the power that goes, disks with little room.
func TestTales(t *testing.T) {
	for seed := range 80 {
		r := chance(seed)
		k := on(t, fmt.Sprint("tale ", seed), empty(t, []int{big, big, 3000, 700}[seed%4]), 3)
		for range 60 {
			k.step(r)
			if k.d.Down() {
				k.fire(r.Intn(3))
				k.crash(anyFate(r)...)
				k.open()
			}
		}
	}
}

func (k *desk) step(r *rand.Rand) {
	k.t.Helper()
	book := r.Intn(3)
	run := 1
	if runs := k.s.State().Runs; len(runs) > 0 {
		run = runs[r.Intn(len(runs))].ID
	}
	switch r.Intn(20) {
	case 0, 1, 2, 3, 4:
		k.add(book, anySchedule(r))
	case 5:
		k.drop(book, anySchedule(r).Name)
	case 6, 7, 8, 9:
		k.fire(book)
	case 10, 11:
		k.do(tick(r.Intn(300)))
	case 12:
		k.do(tick(r.Intn(5000)))
	case 13:
		k.do(cancel(run))
	case 14, 15:
		k.do(forget(run))
	case 16:
		k.do(poll(r.Intn(2)))
	case 17:
		k.arm(r.Intn(9))
	case 18:
		k.crash(anyFate(r)...)
		k.open()
	case 19:
		k.seldom(r, book)
	}
}

// seldom is a step that comes less often than others.
func (k *desk) seldom(r *rand.Rand, book int) {
	k.t.Helper()
	switch r.Intn(3) {
	case 0:
		k.anew(book)
	case 1:
		got, want := k.s.Compact(), k.other.Compact()
		k.note("Compact %d", want)
		if got != want {
			k.fatal("Compact: %d; want %d", got, want)
		}
	case 2:
		k.do(tick(min(40000, max(0, 2*day-k.s.Now()))))
	}
}

func anyFate(r *rand.Rand) []int {
	fate := make([]int, r.Intn(4))
	for i := range fate {
		fate[i] = []int{0, 1, r.Intn(150), math.MaxInt}[r.Intn(4)]
	}
	return fate
}

// One book over two stores: what was fired into the one is not due at the other one either.
func TestTwoStores(t *testing.T) {
	b := with(t, minutely("a"))
	one, two := at(t, 120), at(t, 180)
	fires(t, "P18.4", b, one, "a 120 0")
	fires(t, "P18.4", b, two, "a 180 0")
	fires(t, "P18.4", b, one, "")
	pass(t, one, tick(60))
	fires(t, "P18.4", b, one, "")
	pass(t, one, tick(60))
	fires(t, "P18.4", b, one, "a 240 0")
	if got, want := len(one.State().Runs), len(two.State().Runs)+1; got != want {
		t.Errorf("P18.4: %d runs, and %d", got, want-1)
	}
}
