package crew

import (
	"fmt"
	"math"
	"math/rand"
	"runtime"
	"strings"
	"sync"
	"testing"
	"time"

	"escapement/api"
	"escapement/disk"
	"escapement/durable"
	"escapement/history"
)

// The promise P19.4: what follows.

// nodesOf counts those of all runs, and how many runs there are.
func nodesOf(s *durable.Store) (nodes, runs int) {
	for _, r := range s.State().Runs {
		nodes += len(r.Nodes)
	}
	return nodes, len(s.State().Runs)
}

// worked holds runs that have just been submitted: with the seed 0 each round does something as long as not all have succeeded, and none more than there are nodes is wanted.
func worked(t *testing.T, promise string, s *durable.Store, workers func() int) (rounds int) {
	t.Helper()
	nodes, runs := nodesOf(s)
	for honest(t, promise, s) < runs {
		l, code := Round(s, workers(), 0)
		if rounds++; rounds > nodes || code != api.OK || len(l) < 2 || len(l)%2 != 0 {
			t.Fatalf("%s: P19.4: the round %d of %d nodes: %d answers, %d", promise, rounds, nodes, len(l), code)
		}
		for _, a := range l {
			if a.Code != api.OK {
				t.Fatalf("%s: P19.4: %+v", promise, a)
			}
		}
	}
	if l, code := Round(s, workers(), 0); len(l) != 0 || code != api.OK {
		t.Fatalf("%s: P19.4: behind all of it: %+v, %d", promise, l, code)
	}
	return rounds
}

// storeOf has runs of plans, and nothing else.
func storeOf(t *testing.T, plans ...api.Plan) *durable.Store {
	t.Helper()
	s := opened(t, empty(t, api.MaxDisk))
	for _, p := range plans {
		if a := s.Do(submit(p)); a.Code != api.OK {
			t.Fatalf("Submit: %d", a.Code)
		}
	}
	return s
}

// With the seed 0 as many rounds as there are nodes are enough, and a row that one worker at a time can do takes just as many.
func TestRounds(t *testing.T) {
	for _, workers := range []int{1, 2, 3, 7, 15, 16} {
		crew := func() int { return workers }
		for _, nodes := range []int{1, 2, 3, 20, 64} {
			what := fmt.Sprintf("%d workers, %d nodes", workers, nodes)
			if got := worked(t, what, storeOf(t, row(nodes)), crew); got != nodes {
				t.Errorf("P19.4: %s in a row: %d rounds", what, got)
			}
			if got, want := worked(t, what, storeOf(t, plain(nodes)), crew), (nodes+workers-1)/workers; got != want {
				t.Errorf("P19.4: %s side by side: %d rounds; want %d", what, got, want)
			}
		}
	}
	// As many tasks as there may be.
	var plans []api.Plan
	for range 16 {
		plans = append(plans, row(64))
	}
	if got := worked(t, "1024 nodes", storeOf(t, plans...), func() int { return 16 }); got != 64 {
		t.Errorf("P19.4: 16 rows of 64: %d rounds", got)
	}
}

// Runs of plans by chance, and crews of any size, that change from round to round.
func TestRoundsByChance(t *testing.T) {
	for seed := range 60 {
		r := chance(seed)
		var plans []api.Plan
		for range 1 + r.Intn(5) {
			plans = append(plans, anyPlan(r, 10))
		}
		workers := 1 + r.Intn(16)
		worked(t, fmt.Sprint("seed ", seed), storeOf(t, plans...), func() int {
			if seed%2 == 0 {
				workers = 1 + r.Intn(16)
			}
			return workers
		})
	}
}

// wayward is a crew's life: rounds of any size and seed, and time that goes on; the power goes where chance will have it.
func wayward(t *testing.T, r *rand.Rand, d *disk.Disk, s *durable.Store, steps int, power bool) (*durable.Store, []api.Note) {
	t.Helper()
	var notes []api.Note
	for range steps {
		if power && r.Intn(6) == 0 {
			d.Arm(r.Intn(25))
		}
		switch r.Intn(4) {
		case 0:
			notes = append(notes, s.Do(tick(r.Intn(12))).Notes...)
		default:
			answers, code := Round(s, 1+r.Intn(16), []uint64{0, uint64(r.Intn(50)), r.Uint64()}[r.Intn(3)])
			if code != api.OK && (code != api.ErrDiskDown && code != api.ErrDurableDead || len(answers) != 0 || !power) {
				t.Fatalf("P19.3: %+v, %d", answers, code)
			}
			for _, a := range answers {
				notes = append(notes, a.Notes...)
			}
		}
		if d.Down() {
			d.Crash(anyFate(r))
			s = opened(t, d)
		}
		honest(t, "on the way", s)
	}
	d.Crash(nil)
	return opened(t, d), notes
}

// patient is a plan whose runs may take long, and whose nodes may fail often.
func patient(p api.Plan) api.Plan {
	p.Deadline = 1 << 40
	for i := range p.Nodes {
		p.Nodes[i].Budget = 100
	}
	return p
}

// settles lets an honest crew do what is left, time going on between.
func settles(t *testing.T, s *durable.Store) {
	t.Helper()
	for range 300 {
		if allEnded(s) {
			return
		}
		if _, code := Round(s, 16, 0); code != api.OK {
			t.Fatalf("P19.3: %d", code)
		}
		s.Do(tick(5))
	}
	t.Fatal("P19.4: the runs do not end")
}

func allEnded(s *durable.Store) bool {
	for _, r := range s.State().Runs {
		if r.Status == api.RunLive {
			return false
		}
	}
	return true
}

// Whatever crews, seeds, ticks and losses of power: who has succeeded has the results of its plan.
func TestResultsOfRuns(t *testing.T) {
	for _, power := range []bool{false, true} {
		succeeded, ended := 0, 0
		for seed := range 60 {
			r := chance(seed)
			d := empty(t, api.MaxDisk)
			s := opened(t, d)
			var plans []api.Plan
			for range 1 + r.Intn(4) {
				p := anyPlan(r, 9)
				if r.Intn(4) > 0 {
					p = patient(p)
				}
				plans = append(plans, p)
			}
			var notes []api.Note
			for _, p := range plans {
				notes = append(notes, s.Do(submit(p)).Notes...)
			}
			s, more := wayward(t, r, d, s, 25, power)
			if notes = append(notes, more...); !power {
				audited(t, plans, notes)
			}
			settles(t, s)
			succeeded += honest(t, fmt.Sprint("seed ", seed), s)
			_, runs := nodesOf(s)
			ended += runs
		}
		if succeeded < 60 || succeeded == ended {
			t.Errorf("of %d runs %d have succeeded", ended, succeeded)
		}
	}
}

// audited holds that the answers tell all that happened, in order: the notes pass history's audit.
func audited(t *testing.T, plans []api.Plan, notes []api.Note) {
	t.Helper()
	runs, lists := history.Split(notes)
	for i, run := range runs {
		verdicts, code := history.Audit([]api.Story{{Run: run, Plan: plans[run-1], Notes: lists[i]}}, 1)
		if code != api.OK || verdicts[0].Code != api.OK {
			t.Fatalf("P19.3: the notes of run %d: %+v, %d", run, verdicts, code)
		}
	}
}

// The power goes in each call of the rounds of a plan, with fates of every kind; then an honest crew ends it, and the results are the plan's.
func TestEveryLoss(t *testing.T) {
	p := patient(of(nodeOf("a"), nodeOf("b", 0), nodeOf("c", 0), nodeOf("d", 1, 2)))
	for _, seed := range []uint64{0, 9, 23} {
		for calls := 0; ; calls++ {
			d := empty(t, big)
			s := opened(t, d)
			s.Do(submit(p))
			d.Arm(calls)
			for range 6 {
				Round(s, 3, seed)
				s.Do(tick(1))
			}
			if !d.Down() {
				break
			}
			for _, fate := range [][]int{nil, {1}, {20}, {math.MaxInt}, {math.MaxInt, math.MaxInt}} {
				other := d.Copy()
				other.Crash(fate)
				s := opened(t, other)
				settles(t, s)
				if honest(t, fmt.Sprint("seed ", seed, ", call ", calls, ", fate ", fate), s) != 1 {
					t.Fatalf("P19.4: seed %d, call %d, fate %v: the run has not succeeded", seed, calls, fate)
				}
			}
		}
	}
}

// life tells all that a crew's life answers.
func life(t *testing.T, seed int) string {
	r := chance(seed)
	s := opened(t, empty(t, big))
	var text strings.Builder
	for range 25 {
		switch r.Intn(4) {
		case 0:
			fmt.Fprint(&text, told(s.Do(submit(anyPlan(r, 12)))))
		case 1:
			fmt.Fprint(&text, told(s.Do(tick(r.Intn(6)))))
		default:
			l, code := Round(s, 1+r.Intn(16), uint64(r.Intn(60)))
			fmt.Fprint(&text, told(l), int(code))
		}
	}
	return text.String() + told(s.State())
}

// R5: however goroutines run, the answers are the same: on one processor and on many, alone and beside others.
func TestSameAnswers(t *testing.T) {
	ahead := runtime.GOMAXPROCS(0)
	defer runtime.GOMAXPROCS(ahead)
	var want [5]string
	for i := range want {
		want[i] = life(t, i)
	}
	for _, processors := range []int{1, 2, 3, 8} {
		runtime.GOMAXPROCS(processors)
		var all sync.WaitGroup
		for i := range 20 {
			all.Go(func() {
				if got := life(t, i%5); got != want[i%5] {
					t.Errorf("R5: %d processors: the same calls were answered in two ways", processors)
				}
			})
		}
		all.Wait()
	}
}

// R5: all goroutines have ended when Round answers, however it ends. (One that has told so may take a moment still to be counted no more.)
func TestNobodyIsLeft(t *testing.T) {
	ahead := runtime.NumGoroutine()
	for workers := range 18 {
		k := with(t, "R5", submit(plain(20)))
		Round(nil, workers, 0)
		Round(new(durable.Store), workers, 0)
		Round(k.s, workers, 0)
		Round(k.s, workers, 77)
		k.d.Arm(2*workers + 1) // in what is told, behind the work
		Round(k.s, workers, 0)
		Round(k.s, workers, 0)
	}
	for wait := 0; runtime.NumGoroutine() > ahead; wait++ {
		if wait > 1000 {
			t.Fatalf("R5: %d goroutines are left, there were %d", runtime.NumGoroutine(), ahead)
		}
		time.Sleep(time.Millisecond)
	}
}
