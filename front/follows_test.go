package front

import (
	"fmt"
	"math"
	"math/rand"
	"slices"
	"strings"
	"testing"

	"escapement/api"
	"escapement/codec"
	"escapement/disk"
	"escapement/durable"
	"escapement/engine"
	"escapement/journal"
)

// The promises P20.7 and P20.8.

// someAsk is a request that a state has often something for.
func someAsk(r *rand.Rand, s api.State) api.Ask {
	names := []string{"a", "b", "c", "d-e"}
	token, run := 1+r.Intn(s.NextToken), 1+r.Intn(s.NextRun)
	switch r.Intn(22) {
	case 0, 1:
		return submit(anyPlan(r, 5), []string{"", "k", "a@60"}[r.Intn(3)])
	case 2, 3:
		return poll(r.Intn(3))
	case 4:
		return beat(token)
	case 5, 6:
		return complete(token, anyText(r, 9))
	case 7:
		return fail(token)
	case 8:
		return cancel(run)
	case 9:
		return forget(run)
	case 10:
		return draw(r.Uint64())
	case 11, 12:
		return tick(r.Intn([]int{3, 70, 500}[r.Intn(3)]))
	case 13:
		return compact()
	case 14:
		return runOf(run)
	case 15, 16:
		return add(names[r.Intn(4)], []string{"* * * * *", "*/3 * * * *", "1-4 * * * *", "0 0 30 2 *", "no cron"}[r.Intn(5)], anyPlan(r, 3), r.Intn(4)*60)
	case 17:
		return drop(names[r.Intn(4)])
	case 18, 19:
		return fire()
	}
	return round(r.Intn(6), []uint64{0, uint64(r.Intn(99)), r.Uint64()}[r.Intn(3)])
}

// lives is a life of requests of all kinds, on a disk that may be small, whose power goes where chance will have it; each reply is the layers' below.
func lives(t *testing.T, seed, capacity, steps int, power bool, seen map[string]int) {
	t.Helper()
	r := chance(seed)
	k := on(t, fmt.Sprintf("P20.7, seed %d", seed), blank(t, capacity))
	for range steps {
		switch r.Intn(30) {
		case 0:
			k.opens()
		case 1, 2:
			if power {
				k.arm(r.Intn(30))
			}
		case 3:
			if power {
				k.crash(anyFate(r)...)
				k.open()
			}
		case 4:
			b := []byte(anyText(r, 6))
			if _, ok := modelRead(b); !ok && told(k.f.Do(b)) != told(api.Reply{Code: api.ErrFrontAsk}) {
				k.fatal("%x is answered", b)
			}
			if _, ok := modelRead(b); !ok {
				k.alike()
			}
		default:
			a := someAsk(r, k.l.s.State())
			seen[fmt.Sprint(a.Kind, " ", int(k.do(a).Code))]++
		}
		if k.d.Down() && r.Intn(3) == 0 {
			k.crash(anyFate(r)...)
			k.open()
		}
	}
}

// P20.7: without and with losses of power, and where the disk is full.
func TestLives(t *testing.T) {
	seen := map[string]int{}
	for seed := range 25 {
		lives(t, seed, big, 70, false, seen)
		lives(t, 100+seed, big, 70, true, seen)
		lives(t, 200+seed, 700+40*seed, 70, true, seen)
	}
	// Each kind, with OK and with the codes that the layers below have for it.
	for _, x := range []string{"1 0", "1 54", "1 56", "1 141", "1 145", "1 146", "1 147", "1 148", "1 170", "2 0", "2 54", "2 56", "2 170", "3 0", "3 147", "4 0", "4 40", "4 180", "5 0", "5 182", "6 0", "7 0", "7 54", "7 56", "7 170", "7 190"} {
		if seen[x] == 0 {
			t.Errorf("P20.7: of a kind no reply of this test has the code: %s; %v", x, seen)
		}
	}
}

// P20.7: the same by the requests' bytes alone, with requests that are at the bounds of their fields.
func TestLivesOfAny(t *testing.T) {
	r := chance(5)
	k := on(t, "P20.7", blank(t, big))
	for i := range 600 {
		if i%40 == 0 {
			k.open()
		}
		k.do(anyAsk(r, 1+r.Intn(7)))
	}
	for _, a := range bases() {
		k.do(a)
	}
}

// Losses of power.

// fates are what is tried behind each loss.
func fates() [][]int {
	most := math.MaxInt
	return [][]int{nil, {1}, {20}, {60}, {most}, {0, most}, {most, most, most}}
}

// under is what happens ahead, and the request in which the power goes.
type under struct {
	what  string
	ahead []api.Ask
	a     api.Ask
}

func unders() []under {
	wide := plain(5)
	for i := range wide.Nodes {
		wide.Nodes[i].Lane, wide.Nodes[i].Beat = i%3, 4
	}
	begun := []api.Ask{submit(line(), "k"), submit(wide, ""), poll(0), tick(1)}
	book := []api.Ask{minutely("noon"), add("dusk", "*/2 * * * *", wide, 0), minutely("taken"), tick(125), submit(wide, "taken@120")}
	ended := append(slices.Clone(begun), cancel(1))
	return []under{
		{"the first submission", nil, submit(line(), "k")},
		{"a submission", begun, submit(line(), "")},
		{"one that is there", begun, submit(line(), "k")},
		{"a poll", begun, poll(1)},
		{"a poll of nothing", begun, poll(9)},
		{"a beat", append(slices.Clone(begun), poll(1)), beat(2)},
		{"a completion", begun, complete(1, "res")},
		{"a failure", begun, fail(1)},
		{"a cancel", begun, cancel(2)},
		{"a forget", ended, forget(1)},
		{"a draw", begun, draw(5)},
		{"a tick", begun, tick(30)},
		{"a compaction", begun, compact()},
		{"a compaction behind one", append(slices.Clone(begun), compact(), poll(1)), compact()},
		{"a run that is told", begun, runOf(1)},
		{"a schedule", begun, minutely("often")},
		{"a schedule that is dropped", append(slices.Clone(begun), minutely("often")), drop("often")},
		{"a firing", book, fire()},
		{"a firing behind one", append(slices.Clone(book), fire(), tick(60)), fire()},
		{"a firing of nothing", begun, fire()},
		{"a round", begun, round(3, 0)},
		{"a round of many", append(slices.Clone(begun), submit(plain(20), "")), round(16, 0)},
		{"a round of some who fail", append(slices.Clone(begun), submit(wide, "")), round(9, 77)},
		{"a round of nobody", nil, round(3, 0)},
		{"a round that may not be", begun, round(17, 0)},
	}
}

// laid are the operations that a disk holds behind its image.
func laid(t *testing.T, d *disk.Disk) (list []api.Op) {
	t.Helper()
	j, code := journal.Open(d.Copy())
	if code != api.OK {
		t.Fatal(code)
	}
	for _, b := range j.Records() {
		o, code := codec.ReadOp(b)
		if code != api.OK {
			t.Fatalf("a record is no operation: %x", b)
		}
		list = append(list, o)
	}
	return list
}

// stateOf is all that a disk holds.
func stateOf(t *testing.T, d *disk.Disk) api.State {
	t.Helper()
	s, code := durable.Open(d.Copy())
	if code != api.OK {
		t.Fatalf("Open: %d", code)
	}
	return s.State()
}

// runsOf tells what a front with a state answers of the first runs.
func runsOf(e *engine.Engine, most int) string {
	var b strings.Builder
	for id := range most {
		run, code := e.Run(id + 1)
		fmt.Fprintln(&b, told(api.Reply{Code: code, Run: run}))
	}
	return b.String()
}

const mostRuns = 8

// outcomes are what may be told of the runs behind a loss of power in a request: those of the old front, and those behind each first of the operations that the request does.
func outcomes(t *testing.T, ahead *disk.Disk, behind *disk.Disk, compacted bool) []string {
	t.Helper()
	e, code := engine.From(stateOf(t, ahead))
	if code != api.OK {
		t.Fatal(code)
	}
	list := []string{runsOf(e, mostRuns)}
	if compacted {
		return list
	}
	for _, o := range laid(t, behind)[len(laid(t, ahead)):] {
		if a := e.Do(o); a.Code != api.OK {
			t.Fatalf("%+v: %d", o, a.Code)
		}
		list = append(list, runsOf(e, mostRuns))
	}
	return list
}

// emptyCadence holds that a front has no schedule of these names, and nothing to fire.
func emptyCadence(t *testing.T, what string, f *Front) {
	t.Helper()
	for _, name := range []string{"noon", "dusk", "taken", "often"} {
		if r := f.Do(bytesOf(t, drop(name))); r.Code != api.ErrCadenceNone {
			t.Fatalf("P20.8: %s: there is a schedule %s: %+v", what, name, r)
		}
	}
	for _, a := range []api.Ask{fire(), tick(86400), fire()} {
		if r := f.Do(bytesOf(t, a)); r.Code != api.OK || len(r.Fired) != 0 {
			t.Fatalf("P20.8: %s: %+v", what, r)
		}
	}
}

// P20.8: the power goes in each call on the disk of each kind of request, with each fate; in between, too.
func TestPower(t *testing.T) {
	for _, x := range unders() {
		used := map[string]int{}
		d := blank(t, big)
		f := made(t, d)
		replies(t, f, x.ahead...)
		start := d.Copy()
		replies(t, f, x.a)
		may := outcomes(t, start, d, x.a.Kind == api.AskCompact)
		calls := 0
		for ; powerAt(t, x, may, calls, used); calls++ {
		}
		if several := x.a.Kind == api.AskFire || x.a.Kind == api.AskCrew; several && len(may) > 1 && len(used) < len(slices.Compact(slices.Clone(may))) {
			t.Errorf("P20.8: %s: %d of %d outcomes came about", x.what, len(used), len(may))
		}
		if len(used) > 0 && x.a.Kind == api.AskOp && len(may) != 2 {
			t.Errorf("P20.8: %s: an operation has %d outcomes", x.what, len(may))
		}
	}
}

// next are what may be found where an old front tells this: the same, or what the next operation makes of it. (One that shows a sign of life turns nothing that is told.)
func next(may []string, now string) (right []string) {
	for i := range may {
		if may[i] == now {
			right = append(right, may[i:min(i+2, len(may))]...)
		}
	}
	return right
}

// powerAt lets the power go in the request's call of this number; false, if it has no such call.
func powerAt(t *testing.T, x under, may []string, calls int, used map[string]int) bool {
	t.Helper()
	d := blank(t, big)
	old := made(t, d)
	replies(t, old, x.ahead...)
	before := runs(t, old, mostRuns)
	if before != may[0] {
		t.Fatalf("P20.8: %s: %s; want %s", x.what, before, may[0])
	}
	d.Arm(calls)
	r := replies(t, old, x.a)[0]
	if !d.Down() {
		// The power goes behind the request: all of it stays.
		now := runs(t, old, mostRuns)
		for _, fate := range fates() {
			c := d.Copy()
			c.Crash(fate)
			if got := runs(t, made(t, c), mostRuns); got != now || got != may[len(may)-1] {
				t.Fatalf("P20.8: %s, fate %v: %s; want %s", x.what, fate, got, now)
			}
		}
		return false
	}
	if code := r.Code; code != api.ErrDiskDown && (code != api.OK || x.a.Kind != api.AskFire) {
		t.Fatalf("P20.8: %s: %+v", x.what, r)
	}
	right := next(may, runs(t, old, mostRuns))
	if len(right) == 0 {
		t.Fatalf("P20.8: %s, call %d: %s is told by a dead front; of %q", x.what, calls, runs(t, old, mostRuns), may)
	}
	for _, fate := range fates() {
		what := fmt.Sprintf("%s, call %d, fate %v", x.what, calls, fate)
		c := d.Copy()
		c.Crash(fate)
		f := made(t, c)
		got := runs(t, f, mostRuns)
		if !slices.Contains(right, got) {
			t.Fatalf("P20.8: %s: %s; want one of %q", what, got, right)
		}
		used[got]++
		emptyCadence(t, what, f)
	}
	return true
}

// P20.8: many losses behind one another, in requests of all kinds by chance, each held against the layers below on a disk that keeps its power.
func TestPowerByChance(t *testing.T) {
	lost := map[int]int{}
	for seed := range 30 {
		r := chance(300 + seed)
		d := blank(t, []int{big, 3000}[seed%2])
		k := on(t, fmt.Sprintf("P20.8, seed %d", seed), d)
		for range 60 {
			ahead, a := k.twin.Copy(), someAsk(r, k.l.s.State())
			if r.Intn(2) == 0 {
				k.note("Arm")
				d.Arm(r.Intn(8))
			}
			got, want := k.f.Do(bytesOf(t, a)), k.l.do(a)
			k.note("%s: %d", brief(a), got.Code)
			if !d.Down() {
				if told(got) != told(want) {
					k.fatal("%+v; want %+v", got, want)
				}
				continue
			}
			lost[a.Kind]++
			right := next(outcomes(t, ahead, k.twin, a.Kind == api.AskCompact), runs(t, k.f, mostRuns))
			fate := anyFate(r)
			k.note("Crash %v", fate)
			d.Crash(fate)
			k.twin = d.Copy()
			k.open()
			if got := runs(t, k.f, mostRuns); !slices.Contains(right, got) {
				k.fatal("%s; want one of %q", got, right)
			}
			emptyCadenceOf(t, k.f)
		}
	}
	if lost[1] < 100 || lost[2] < 10 || lost[6] < 10 || lost[7] < 20 {
		t.Errorf("P20.8: by kinds the power has gone so often: %v", lost)
	}
}

// emptyCadenceOf asks without a tick, so that a life goes on as it was.
func emptyCadenceOf(t *testing.T, f *Front) {
	t.Helper()
	for _, r := range replies(t, f, fire(), drop("a"), drop("b"), drop("c"), drop("d-e")) {
		if len(r.Fired) != 0 || r.Code != api.OK && r.Code != api.ErrCadenceNone || r.Code == api.OK && told(r) != told(api.Reply{}) {
			t.Fatalf("P20.8: %+v", r)
		}
	}
}

// P20.8: as one without more, so opened again: the same runs.
func TestPowerAgain(t *testing.T) {
	for seed := range 20 {
		r := chance(400 + seed)
		d := blank(t, big)
		f := made(t, d)
		d.Arm(20 + r.Intn(60))
		for range 60 {
			f.Do(bytesOf(t, someAsk(r, f.store.State())))
		}
		d.Crash(anyFate(r))
		want := runs(t, made(t, d), mostRuns)
		for range 3 {
			d.Crash(anyFate(r))
			if got := runs(t, made(t, d), mostRuns); got != want {
				t.Fatalf("P20.8: seed %d: %s; want %s", seed, got, want)
			}
		}
	}
}
