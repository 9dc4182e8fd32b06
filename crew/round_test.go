package crew

import (
	"fmt"
	"math"
	"slices"
	"strings"
	"testing"

	"escapement/api"
	"escapement/disk"
	"escapement/durable"
	"escapement/engine"
)

// The promise P19.3.

func TestRoundExamples(t *testing.T) {
	for _, workers := range []int{0, 1, 17} {
		if l, code := Round(nil, workers, 0); len(l) != 0 || code != api.ErrArg {
			t.Errorf("P19.3: Round of no store: %+v, %d", l, code)
		}
	}
	k := on(t, "P19.3", empty(t, big))
	k.leaves(func() {
		for _, workers := range []int{0, 17} {
			l, code := Round(k.s, workers, 0)
			if len(l) != 0 || code != api.ErrCrewSize {
				t.Errorf("P19.3: %d workers: %+v, %d", workers, l, code)
			}
		}
		k.rounds(3, 0, "")
	})
	k.pass(submit(line()))
	l := k.rounds(3, 0, "poll 0 by 0, done 1")
	if l[0].Task.Name != "a" || l[1].Notes[0].Kind != api.NoteDone {
		t.Errorf("P19.3: %+v", l)
	}
	l = k.rounds(3, 0, "poll 0 by 0, done 2")
	if last := l[1].Notes[len(l[1].Notes)-1]; l[0].Task.Name != "b" || last.Kind != api.NoteEnded || last.Why != api.RunSucceeded {
		t.Errorf("P19.3: %+v", l)
	}
	k.leaves(func() { k.rounds(3, 0, "") })
	k.pass(submit(line())).arm(0)
	k.do(poll(0))
	k.ends(1, 0, api.ErrDurableDead)
}

// seeds are near to each other, to what 16 divides, and to the greatest.
func seeds() []uint64 {
	list := []uint64{1 << 32, 1<<32 + 5, 1 << 63, 1<<63 - 1, 1<<63 + 11, math.MaxUint64, math.MaxUint64 - 7, math.MaxUint64 - 15, math.MaxUint64 - 16}
	for seed := range 70 {
		list = append(list, uint64(seed))
	}
	return list
}

// Wrong numbers of workers, whatever the seed and the store: nothing is asked of it.
func TestRoundWorkers(t *testing.T) {
	wrong := []int{math.MinInt, -1 << 32, -16, -1, 0, 17, 18, 32, 256, 1 << 32, 1<<32 + 1, 1 << 40, math.MaxInt}
	down := with(t, "P19.3", submit(line()))
	down.arm(0)
	down.do(tick(1))
	for _, k := range []*desk{on(t, "P19.3", empty(t, big)), with(t, "P19.3", submit(plain(20))), on(t, "P19.3", empty(t, 0)), down} {
		k.leaves(func() {
			for _, workers := range wrong {
				for _, seed := range []uint64{0, 1, math.MaxUint64} {
					if l, code := Round(k.s, workers, seed); len(l) != 0 || code != api.ErrCrewSize {
						t.Errorf("P19.3: %d workers: %+v, %d", workers, l, code)
					}
					if l, code := Round(nil, workers, seed); len(l) != 0 || code != api.ErrArg {
						t.Errorf("R1: no store: %+v, %d", l, code)
					}
				}
			}
		})
	}
}

// Stores that nobody has opened: no call panics, and nothing is answered.
func TestRoundNoStore(t *testing.T) {
	e := engine.New()
	e.Do(submit(plain(3)))
	ahead := told(e.State())
	for _, s := range []*durable.Store{{}, {Engine: e}, {Engine: new(engine.Engine)}} {
		for workers := 1; workers <= 16; workers++ {
			if l, code := Round(s, workers, uint64(workers)); len(l) != 0 || code != api.ErrArg {
				t.Errorf("R1: Round: %+v, %d", l, code)
			}
		}
		if l, code := Round(s, 0, 0); len(l) != 0 || code != api.ErrCrewSize {
			t.Errorf("R1: Round: %+v, %d", l, code)
		}
	}
	if told(e.State()) != ahead {
		t.Errorf("R3: %s; it was %s", told(e.State()), ahead)
	}
}

// Each number of workers that may be: so many poll, each once, and each tells what it has.
func TestRoundSizes(t *testing.T) {
	for workers := 1; workers <= 16; workers++ {
		for _, tasks := range []int{1, workers - 1, workers, workers + 1, 40} {
			if tasks == 0 {
				continue
			}
			k := with(t, "P19.3", submit(plain(tasks)))
			doing := min(workers, tasks)
			var polls, dones []string
			for i := range doing {
				polls, dones = append(polls, fmt.Sprint("poll 0 by ", i)), append(dones, fmt.Sprint("done ", i+1))
			}
			k.rounds(workers, 0, strings.Join(append(polls, dones...), ", "))
			if left := k.s.Ready(0); left != tasks-doing {
				t.Errorf("P19.3: %d workers, %d tasks: %d are left", workers, tasks, left)
			}
			list := laid(t, k.d)[1:]
			for i := range doing {
				want := api.Op{Kind: api.OpComplete, Token: i + 1, Result: Work(fmt.Sprint("n", i), nil)}
				if told(list[i]) != told(api.Op{Kind: api.OpPoll, Worker: i}) || told(list[doing+i]) != told(want) {
					t.Fatalf("P19.3: %d workers, %d tasks: %+v was laid", workers, tasks, list)
				}
			}
		}
	}
}

// Where nothing is ready nothing is asked, though there are runs: all is leased, or backs off, or has ended.
func TestRoundNothingReady(t *testing.T) {
	for what, k := range map[string]*desk{
		"no runs":        with(t, "P19.3"),
		"only time":      with(t, "P19.3", tick(1000), draw(5)),
		"leased":         with(t, "P19.3", submit(line()), poll(0)),
		"in backoff":     with(t, "P19.3", submit(line()), poll(0), fail(1)),
		"cancelled":      with(t, "P19.3", submit(line()), cancel(1)),
		"expired":        with(t, "P19.3", submit(line()), tick(100)),
		"closed":         with(t, "P19.3", submit(line()), poll(0), tick(10)),
		"closed, behind": with(t, "P19.3", submit(line()), poll(0), tick(13)),
	} {
		k.leaves(func() {
			for _, seed := range seeds() {
				for _, workers := range []int{1, 2, 16} {
					if l, code := Round(k.s, workers, seed); len(l) != 0 || code != api.OK {
						t.Fatalf("P19.3, %s: %+v, %d", what, l, code)
					}
				}
			}
		})
	}
	k := with(t, "P19.3", submit(line()), poll(0), tick(14))
	if k.rounds(2, 0, "poll 0 by 0, done 2"); k.s.Ready(0) != 1 {
		t.Errorf("P19.3: what has waited long enough is ready")
	}
}

// A lane with something ready is found from each lane on, by each worker.
func TestLaneFound(t *testing.T) {
	for lane := range 16 {
		for seed := range 33 {
			k := with(t, "P19.3", submit(lanes(lane)))
			_, asked, _ := k.round(1, uint64(seed))
			if len(asked) == 0 || asked[0].Lane != lane {
				t.Fatalf("P19.3: lane %d, seed %d: %+v", lane, seed, asked)
			}
		}
	}
}

// All lanes have something: each worker begins at its own, which the seed moves on.
func TestLaneOwn(t *testing.T) {
	all := []int{0, 1, 2, 3, 4, 5, 6, 7, 8, 9, 10, 11, 12, 13, 14, 15}
	for _, seed := range seeds() {
		k := with(t, "P19.3", submit(lanes(all...)))
		k.round(16, seed)
		list := laid(t, k.d)[1:]
		for i := range 16 {
			want := api.Op{Kind: api.OpPoll, Lane: (i + int(seed%16)) % 16, Worker: i}
			if told(list[i]) != told(want) {
				t.Fatalf("P19.3: seed %d: the worker %d polls by %+v; want %+v", seed, i, list[i], want)
			}
		}
	}
}

// Of two lanes that have something the one that comes first is polled, from each lane on; one that others have emptied is passed over.
func TestLaneOfTwo(t *testing.T) {
	for one := range 16 {
		for two := range 16 {
			if one == two {
				continue
			}
			for _, seed := range []uint64{uint64(one+two) % 16, uint64(two+1) % 16, uint64(one) + 16} {
				k := with(t, "P19.3", submit(lanes(one, two, one)))
				_, asked, _ := k.round(4, seed)
				own := int(seed % 16)
				first, then := one, two
				if (two-own+16)%16 < (one-own+16)%16 {
					first, then = two, one
				}
				if asked[0].Lane != first || asked[0].Worker != 0 {
					t.Fatalf("P19.3: lanes %d and %d, seed %d: %+v; want %d, then %d", one, two, seed, asked, first, then)
				}
				if polls := slices.IndexFunc(asked, func(o api.Op) bool { return o.Kind != api.OpPoll }); polls != 3 && len(asked) != 3 {
					t.Fatalf("P19.3: lanes %d and %d, seed %d: %+v", one, two, seed, asked)
				}
			}
		}
	}
	k := with(t, "P19.3", submit(lanes(14, 14, 1, 1, 1)))
	k.rounds(6, 15, "poll 1 by 0, poll 1 by 1, poll 1 by 2, poll 14 by 3, poll 14 by 4, "+tellings(15, 5))
	k = with(t, "P19.3", submit(lanes(14, 14, 1)))
	k.rounds(4, 0, "poll 1 by 0, poll 14 by 1, poll 14 by 2, done 1, done 2, done 3")
	k = with(t, "P19.3", submit(lanes(2, 2, 1)))
	k.rounds(4, 0, "poll 1 by 0, poll 2 by 1, poll 2 by 2, done 1, done 2, done 3")
}

// tellings are what so many workers, who have the tokens from 1 on, tell.
func tellings(seed uint64, workers int) string {
	var words []string
	for i := range workers {
		switch way(seed, i) {
		case 0:
			words = append(words, fmt.Sprint("fail ", i+1))
		case 1:
			words = append(words, fmt.Sprint("beat ", i+1), fmt.Sprint("done ", i+1))
		case 2:
		default:
			words = append(words, fmt.Sprint("done ", i+1))
		}
	}
	return strings.Join(words, ", ")
}

// All poll ahead of all telling: what the telling makes ready is for the next round.
func TestPollsFirst(t *testing.T) {
	k := with(t, "P19.3", submit(of(nodeOf("a"), nodeOf("b", 0), nodeOf("c", 0, 1), nodeOf("d"))))
	k.rounds(16, 0, "poll 0 by 0, poll 0 by 1, done 1, done 2")
	k.rounds(16, 0, "poll 0 by 0, done 3")
	k.rounds(16, 0, "poll 0 by 0, done 4")
	k.rounds(16, 0, "")
	if k.honest() != 1 {
		t.Error("P19.4: the run has not succeeded")
	}
	var kinds []int
	for _, o := range laid(t, k.d) {
		kinds = append(kinds, o.Kind)
	}
	if want := []int{1, 2, 2, 4, 4, 2, 4, 2, 4}; !slices.Equal(kinds, want) {
		t.Errorf("P19.3: the operations %v were laid; want %v", kinds, want)
	}
}

// The four ways of telling, where chapter 9's examples tell what Mix answers: of (1, 0) the rest is 1, of (2^64 - 1, 5) it is 2, of (0, 1) it would be 0.
func TestWaysOfExamples(t *testing.T) {
	k := with(t, "P19.3", submit(plain(6)))
	k.rounds(1, 1, "poll 0 by 0, beat 1, done 1")
	k = with(t, "P19.3", submit(plain(6)))
	k.round(6, math.MaxUint64)
	if r, _ := k.s.Run(1); told(r.Nodes[5]) != told(api.NodeState{State: api.NodeLeased, Attempts: 1, Token: 6, Worker: 5}) {
		t.Errorf("P19.3: %+v", r.Nodes[5])
	}
	k = with(t, "P19.3", submit(plain(6)))
	k.rounds(2, 0, "poll 0 by 0, poll 0 by 1, done 1, done 2")
}

// The four ways of telling, by each seed and worker.
func TestWays(t *testing.T) {
	seen := [8]int{}
	for _, seed := range seeds() {
		k := with(t, "P19.3", submit(beating(plain(16))))
		polls := ""
		for i := range 16 {
			polls += fmt.Sprint("poll 0 by ", i, ", ")
			seen[way(seed, i)]++
		}
		k.rounds(16, seed, polls+tellings(seed, 16))
		r, _ := k.s.Run(1)
		for i, n := range r.Nodes {
			want := api.NodeState{State: api.NodeDone, Attempts: 1, Result: Work(fmt.Sprint("n", i), nil)}
			switch way(seed, i) {
			case 0:
				want = api.NodeState{State: api.NodeBackoff, Attempts: 1}
			case 2:
				want = api.NodeState{State: api.NodeLeased, Attempts: 1, Token: i + 1, Worker: i}
			}
			if told(n) != told(want) {
				t.Fatalf("P19.3: seed %d: the node of the worker %d is %+v; want %+v", seed, i, n, want)
			}
		}
	}
	if slices.Min(seen[:]) < 20 {
		t.Errorf("the ways came so often: %v", seen)
	}
}

// With the seed 0 all complete, though of some worker Mix would tell otherwise.
func TestSeedZero(t *testing.T) {
	other := 0
	for i := range 16 {
		if mix(0, uint64(i))%8 < 3 {
			other++
		}
	}
	if other == 0 {
		t.Error("Mix tells nothing else of a worker")
	}
	k := with(t, "P19.3", submit(beating(plain(16))))
	k.round(16, 0)
	if k.honest() != 1 {
		t.Error("P19.3: not all have completed")
	}
}

// A sign of life comes ahead of the end, and its answer stands there, though nothing is noted where none is wanted.
func TestBeats(t *testing.T) {
	for _, p := range []api.Plan{plain(16), beating(plain(16))} {
		found := 0
		for _, seed := range seeds() {
			k := with(t, "P19.3", submit(p))
			answers, asked, _ := k.round(16, seed)
			beats := 0
			for i, o := range asked {
				if o.Kind != api.OpBeat {
					continue
				}
				beats++
				if len(answers[i].Notes) != min(p.Nodes[0].Beat, 1) || answers[i].Code != api.OK {
					t.Fatalf("P19.3: %+v", answers[i])
				}
				if next := asked[i+1]; next.Kind != api.OpComplete || next.Token != o.Token || answers[i+1].Notes[0].Kind != api.NoteDone {
					t.Fatalf("P19.3: behind a sign of life: %+v, %+v", next, answers[i+1])
				}
			}
			laidBeats := 0
			for _, o := range laid(t, k.d) {
				if o.Kind == api.OpBeat {
					laidBeats++
				}
			}
			if want := beats * min(p.Nodes[0].Beat, 1); laidBeats != want {
				t.Fatalf("P19.3: %d signs of life were laid; want %d", laidBeats, want)
			}
			found += beats
		}
		if found < 50 {
			t.Errorf("only %d signs of life", found)
		}
	}
}

// Failing goes to the end of a budget: those who need it are skipped in the very answer.
func TestFails(t *testing.T) {
	seed := uint64(1)
	for way(seed, 0) != 0 {
		seed++
	}
	p := line()
	p.Nodes[0].Budget = 1
	k := with(t, "P19.3", submit(p))
	l := k.rounds(1, seed, "poll 0 by 0, fail 1")
	if notes := l[1].Notes; len(notes) != 4 || notes[3].Kind != api.NoteEnded || notes[3].Why != api.RunFailed {
		t.Errorf("P19.3: %+v", notes)
	}
	k.rounds(1, seed, "")
}

// Inputs are what is worked at: results of others that were told otherwise than by Work, too.
func TestInputs(t *testing.T) {
	for _, result := range []string{"", "x", "another", strings.Repeat("r", 64)} {
		k := with(t, "P19.3", submit(of(nodeOf("a"), nodeOf("b"), nodeOf("c", 0, 1), nodeOf("d", 1))), poll(0))
		k.pass(api.Op{Kind: api.OpComplete, Token: 1, Result: []byte(result)})
		k.round(16, 0)
		k.round(16, 0)
		b := modelWork("b")
		r, _ := k.s.Run(1)
		for i, want := range []string{result, b, modelWork("c", result, b), modelWork("d", b)} {
			if got := string(r.Nodes[i].Result); got != want || r.Status != api.RunSucceeded {
				t.Errorf("P19.3: node %d: %x; want %x", i, got, want)
			}
		}
	}
}

// Refusals of the engine end nothing: they stand among the answers, and who is refused has no task.
func TestRefusedPolls(t *testing.T) {
	s := stateOf(t, submit(plain(20)))
	for left := range 18 {
		s.NextToken = api.MaxCount + 1 - left
		k := on(t, "P19.3", standing(t, s, 1000))
		doing := min(left, 16)
		var words []string
		for i := range 16 {
			words = append(words, fmt.Sprint("poll 0 by ", i))
			if i >= doing {
				words[i] += " refused 144"
			}
		}
		for i := range doing {
			words = append(words, fmt.Sprint("done ", s.NextToken+i))
		}
		k.rounds(16, 0, strings.Join(words, ", "))
		if got := k.s.Ready(0); got != 20-doing {
			t.Errorf("P19.3: %d tokens are left, and %d tasks", left, got)
		}
	}
}

// shift is a round, and what was done ahead of it.
type shift struct {
	what    string
	ops     []api.Op
	workers int
	seed    uint64
}

func shifts() []shift {
	all := allWays()
	return []shift{
		{"one", []api.Op{submit(line())}, 1, 0},
		{"three", []api.Op{submit(line()), submit(lanes(3, 1, 2)), tick(5)}, 3, 0},
		{"all ways", []api.Op{submit(beating(plain(6)))}, 4, all},
		{"all ways, no beats", []api.Op{submit(plain(4)), submit(line())}, 4, all},
		{"sixteen", []api.Op{submit(beating(plain(9))), submit(row(3)), submit(lanes(1, 2, 3, 4, 5, 6))}, 16, 77},
	}
}

// allWays is the first seed by which of four workers each tells in another way.
func allWays() uint64 {
	for seed := uint64(1); ; seed++ {
		seen := map[int]int{}
		for i := range 4 {
			seen[min(way(seed, i), 3)]++
		}
		if len(seen) == 4 {
			return seed
		}
	}
}

// The power goes in each call of a round: no answers, and what was done stays; then the store is dead.
func TestRoundDown(t *testing.T) {
	for _, c := range shifts() {
		for fresh := range 2 {
			for calls := 0; ; calls++ {
				k := with(t, "P19.3, "+c.what, c.ops...)
				if fresh == 1 {
					// A store that is opened anew makes a segment of its own: one call more.
					k.open()
				}
				k.arm(calls)
				if !k.downAt(c.workers, c.seed) {
					break
				}
				k.crash([]int{calls % 3 * 30}...)
				k.open()
				k.round(c.workers, c.seed)
			}
		}
	}
}

// downAt asks for a round that is armed, and whether the power went; if it did, the store is dead, and asked just as long as something is ready.
func (k *desk) downAt(workers int, seed uint64) bool {
	k.t.Helper()
	answers, asked, code := k.round(workers, seed)
	if code == api.OK {
		if len(answers) != len(asked) || k.d.Down() {
			k.fatal("P19.3: %+v of %+v", answers, asked)
		}
		return false
	}
	if code != api.ErrDiskDown || len(answers) != 0 || !k.d.Down() {
		k.fatal("P19.3: %+v, %d", answers, code)
	}
	ready := 0
	for lane := range 16 {
		ready += k.s.Ready(lane)
	}
	want := api.OK
	if ready > 0 {
		want = api.ErrDurableDead
	}
	k.leaves(func() {
		k.ends(workers, seed, want)
		k.ends(16, 0, want)
	})
	return true
}

// The disk is full at each operation of a round, and at each byte: no answers, and what was done stays; nothing more is asked, though it would fit.
func TestRoundFull(t *testing.T) {
	for _, c := range shifts() {
		stops := map[int]int{}
		left, _ := with(t, "P19.3", c.ops...).d.Room()
		for more := 0; ; more++ {
			k := on(t, "P19.3, "+c.what, empty(t, big-left+more)).pass(c.ops...)
			answers, asked, code := k.round(c.workers, c.seed)
			if code == api.OK {
				break
			}
			if code != api.ErrDiskFull || len(answers) != 0 {
				k.fatal("P19.3: %+v, %d", answers, code)
			}
			stops[len(asked)]++
			if got := len(laid(t, k.d)); got > len(c.ops)+len(asked)-1 {
				k.fatal("P19.3: %d operations were laid behind %d", got, len(c.ops))
			}
			// The store is not dead: a round ends there again, or goes on, as it has room.
			k.round(c.workers, c.seed)
		}
		if len(stops) < 2 {
			t.Errorf("P19.3, %s: the round ended at %v", c.what, stops)
		}
	}
}

// A poll has fewer bytes than what a worker tells of it; of a round that has ended no later worker tells.
func TestFullEndsAll(t *testing.T) {
	left, _ := with(t, "P19.3", submit(plain(3)), poll(0), poll(0), poll(0)).d.Room()
	k := on(t, "P19.3", empty(t, big-left+24)) // three polls, and one end of 7 bytes and 17
	k.pass(submit(plain(3)))
	k.ends(3, 0, api.ErrDiskFull)
	r, _ := k.s.Run(1)
	var states []int
	for _, n := range r.Nodes {
		states = append(states, n.State)
	}
	if !slices.Equal(states, []int{api.NodeDone, api.NodeLeased, api.NodeLeased}) {
		t.Errorf("P19.3: the nodes are %v", states)
	}
	k = on(t, "P19.3", empty(t, big-left+23))
	k.pass(submit(plain(3)))
	k.ends(3, 0, api.ErrDiskFull)
	if r, _ := k.s.Run(1); r.Nodes[0].State != api.NodeLeased {
		t.Errorf("P19.3: %+v", r.Nodes)
	}
}

// No number of a record is left, at each operation of a round; and none of a segment.
func TestRoundNumber(t *testing.T) {
	for _, c := range shifts() {
		s := stateOf(t, c.ops...)
		laidNow := 0
		for numbers := 0; ; numbers++ {
			k := on(t, "P19.3, "+c.what, standing(t, s, numbers))
			answers, asked, code := k.round(c.workers, c.seed)
			if code == api.OK {
				laidNow = numbers
				break
			}
			if code != api.ErrJournalNumber || len(answers) != 0 || len(laid(t, k.d)) != numbers {
				k.fatal("P19.3: %+v, %d of %+v", answers, code, asked)
			}
		}
		if laidNow < 2 {
			t.Errorf("P19.3, %s: only %d operations were laid", c.what, laidNow)
		}
		k := with(t, "P19.3, "+c.what, c.ops...)
		for _, x := range []*disk.Disk{k.d, k.twin} {
			x.Create(api.MaxCount)
			x.Sync()
		}
		k.open()
		k.leaves(func() { k.ends(c.workers, c.seed, api.ErrJournalNumber) })
	}
}

// Chance's own stores, workers and seeds, beside the model: time goes on, runs come, are cancelled and forgotten, the power goes, disks are small.
func TestRoundByChance(t *testing.T) {
	var ways [8]int
	codes := map[api.Errno]int{}
	for seed := range 60 {
		r := chance(seed)
		k := on(t, fmt.Sprint("tale ", seed), empty(t, []int{big, big, 6000, 1500}[seed%4]))
		for range 40 {
			switch r.Intn(12) {
			case 0, 1:
				k.do(submit(anyPlan(r, 8)))
			case 2, 3:
				k.do(tick(r.Intn(12)))
			case 4:
				k.do([]api.Op{cancel(1 + r.Intn(4)), {Kind: api.OpForget, Run: 1 + r.Intn(4)}, draw(r.Uint64()), poll(r.Intn(16)), fail(1 + r.Intn(9))}[r.Intn(5)])
			case 5:
				k.arm(r.Intn(30))
			case 6:
				k.crash(anyFate(r)...)
				k.open()
			default:
				_, _, code := k.round(1+r.Intn(16), []uint64{0, uint64(r.Intn(99)), r.Uint64()}[r.Intn(3)])
				codes[code]++
			}
			if k.d.Down() && r.Intn(2) == 0 {
				k.crash(anyFate(r)...)
				k.open()
			}
		}
		for i, n := range k.ways {
			ways[i] += n
		}
	}
	if slices.Min(ways[:]) < 20 || codes[api.OK] < 300 || codes[api.ErrDiskDown] < 20 || codes[api.ErrDurableDead] < 10 || codes[api.ErrDiskFull] < 20 {
		t.Errorf("these ways came: %v; these codes: %v", ways, codes)
	}
}
