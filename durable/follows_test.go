package durable

import (
	"fmt"
	"math"
	"math/rand"
	"slices"
	"testing"

	"escapement/api"
	"escapement/disk"
	"escapement/engine"
)

// What follows, P17.6 to P17.9.

// tale is a store beside an engine that was told all that the store has answered OK, and what the store has told so far.
type tale struct {
	t         *testing.T
	d         *disk.Disk
	s         *Store
	e         *engine.Engine
	under     []api.Op             // the one in which the power went, if there is one
	ended     map[int]api.RunState // runs that had ended, as a State told
	forgotten map[int]int          // runs whose Forget was answered OK or ErrDiskDown
	attempts  map[api.Ref]int
	tokens    map[int]int // how often a poll that was answered OK has told each
	story     []string
}

func begin(t *testing.T, capacity int) *tale {
	t.Helper()
	x := &tale{t: t, d: empty(t, capacity), e: engine.New(), ended: map[int]api.RunState{}, forgotten: map[int]int{}, attempts: map[api.Ref]int{}, tokens: map[int]int{}}
	x.s = opened(t, "P17.7", x.d)
	return x
}

// twin is the same tale, on a copy of the disk; its store is the first one's, and only to be looked at.
func (x *tale) twin() *tale {
	c := *x
	c.d, c.e, c.story, c.under = x.d.Copy(), x.e.Copy(), slices.Clone(x.story), slices.Clone(x.under)
	c.ended, c.forgotten, c.attempts, c.tokens = copied(x.ended), copied(x.forgotten), copied(x.attempts), copied(x.tokens)
	return &c
}

func copied[K comparable, V any](m map[K]V) map[K]V {
	c := make(map[K]V, len(m))
	for k, v := range m {
		c[k] = v
	}
	return c
}

func (x *tale) note(format string, words ...any) {
	x.story = append(x.story, fmt.Sprintf(format, words...))
}

func (x *tale) fatal(format string, words ...any) {
	x.t.Helper()
	x.t.Fatalf(format+"\nstory: %v", append(words, x.story)...)
}

// full tells whether a Code is one of the disk's, of which the engine knows nothing.
func full(code api.Errno) bool { return code == api.ErrDiskFull || code == api.ErrJournalNumber }

// do does an operation, and holds the answer against the engine's.
func (x *tale) do(o api.Op) api.Answer {
	x.t.Helper()
	off := x.d.Down()
	a := x.s.Do(o)
	x.note("%s %d", toldOp(o), a.Code)
	switch {
	case a.Code == api.ErrDurableDead && off:
	case a.Code == api.ErrDiskDown && x.d.Down():
		x.under = []api.Op{o}
	case full(a.Code):
	default:
		if want := x.e.Do(o); !sameAnswer(a, want) {
			x.fatal("P17.6: %+v; an engine answers %+v", a, want)
		}
	}
	if o.Kind == api.OpForget && (a.Code == api.OK || a.Code == api.ErrDiskDown) {
		x.forgotten[o.Run]++
	}
	if o.Kind == api.OpPoll && a.Code == api.OK {
		if x.tokens[a.Task.Token]++; x.tokens[a.Task.Token] > 1 {
			x.fatal("P17.8: token %d was told twice", a.Task.Token)
		}
		x.attempts[api.Ref{Run: a.Task.Run, Node: a.Task.Node}] = a.Task.Attempt
	}
	if a.Code != api.OK && !sameAnswer(a, api.Answer{Code: a.Code}) {
		x.fatal("P17.2: beside an error something is answered: %+v", a)
	}
	x.look()
	return a
}

func (x *tale) compact() api.Errno {
	x.t.Helper()
	code := x.s.Compact()
	x.note("Compact %d", code)
	if code != api.OK && !full(code) && !x.d.Down() {
		x.fatal("P17.3: %d", code)
	}
	x.look()
	return code
}

// look holds the store's state against the engine's, dead or not, and remembers what it tells.
func (x *tale) look() {
	x.t.Helper()
	s := x.s.State()
	if want := x.e.State(); !sameState(s, want) {
		x.fatal("P17.6, P17.9: State is %+v;\nwant %+v", s, want)
	}
	for _, r := range s.Runs {
		if r.Status != api.RunLive {
			x.ended[r.ID] = r
		}
		for i, n := range r.Nodes {
			ref := api.Ref{Run: r.ID, Node: i}
			x.attempts[ref] = max(x.attempts[ref], n.Attempts)
		}
	}
}

func (x *tale) crash(fate ...int) {
	x.d.Crash(fate)
	x.note("Crash %v", fate)
}

// open opens the store anew: its state must be that behind all that was answered OK, or that behind the operation that was under way, too.
func (x *tale) open() api.Errno {
	x.t.Helper()
	s, code := Open(x.d)
	x.note("Open %d", code)
	if code == api.ErrDiskDown && x.d.Down() {
		return code
	}
	if s == nil || code != api.OK {
		x.fatal("P17.7: Open: %v, %d", s, code)
	}
	x.s = s
	got := s.State()
	if !sameState(got, x.e.State()) {
		for _, o := range x.under {
			x.e.Do(o)
		}
		if want := x.e.State(); !sameState(got, want) {
			x.fatal("P17.7: State is %+v;\nneither what was told nor, with the operation under way, %+v", got, want)
		}
	}
	x.under = nil
	x.stays(got)
	x.look()
	return code
}

// stays holds what was told ahead of a loss of power against what is there.
func (x *tale) stays(s api.State) {
	x.t.Helper()
	kept := map[int]api.RunState{}
	for _, r := range s.Runs {
		kept[r.ID] = r
		for i, n := range r.Nodes {
			if n.Attempts < x.attempts[api.Ref{Run: r.ID, Node: i}] {
				x.fatal("P17.8: run %d, node %d has %d attempts", r.ID, i, n.Attempts)
			}
		}
	}
	for id, was := range x.ended {
		r, there := kept[id]
		if !there && x.forgotten[id] == 0 {
			x.fatal("P17.8: run %d had ended, and is not kept", id)
		}
		if there && !sameRun(r, was) {
			x.fatal("P17.8: run %d is %+v; it had ended as %+v", id, r, was)
		}
	}
}

// same holds that further Opens have the same state, whatever crashes lie between, and if the power goes in Open itself.
func (x *tale) same(r *rand.Rand, times int) {
	x.t.Helper()
	want := x.s.State()
	for range times {
		switch r.Intn(4) {
		case 0:
			x.crash(anyFate(r)...)
		case 1:
			x.crash(1, 1, 1, 1, 1, 1)
		case 2:
			x.d.Arm(r.Intn(4))
		}
		for x.open() != api.OK {
			x.crash(anyFate(r)...)
		}
		if !sameState(x.s.State(), want) {
			x.fatal("P17.7: opened again State is %+v;\nwas %+v", x.s.State(), want)
		}
		if x.d.Copy().Sync() != api.OK || r.Intn(2) == 0 {
			x.crash(anyFate(r)...)
			x.open()
		}
	}
}

// P17.6: without a loss of power a store is the engine, on disks with much room and with little, with Compacts between, and opened anew.
func TestIsTheEngine(t *testing.T) {
	t.Parallel()
	fulls, compacts := 0, 0
	for seed := range 400 {
		r := chance(seed)
		x := begin(t, []int{0, 100, 131, 150, 200, 300, 450, 700, 1000, 2000, 4000, big}[r.Intn(12)])
		for range 80 {
			switch r.Intn(16) {
			case 0:
				if x.compact() == api.OK {
					compacts++
				}
			case 1:
				x.open()
			default:
				if full(x.do(anyOp(r, x.s.State())).Code) {
					fulls++
				}
			}
		}
		if x.d.Down() || x.s.Do(poll(9)).Code != api.ErrEngineEmpty {
			x.fatal("P17.6: the store is dead")
		}
		x.open()
	}
	if fulls < 1000 || compacts < 300 {
		t.Errorf("only %d operations found no room, only %d Compacts found some", fulls, compacts)
	}
}

// P17.6: a Compact between any two operations of a script, or between all, changes nothing of what is answered.
func TestCompactBetween(t *testing.T) {
	t.Parallel()
	ops := script()
	for at := range len(ops) + 1 {
		for _, also := range []int{-1, 0, at + 1, at + 3} {
			x := begin(t, big)
			for i, o := range ops {
				if i == at || i == also {
					x.compact()
				}
				x.do(o)
			}
		}
	}
	x := begin(t, big)
	for _, o := range ops {
		x.compact()
		x.do(o)
		x.compact()
		x.open()
	}
}

// script has each kind of operation, refused ones, some that turn nothing, and all ends that a run can have.
func script() []api.Op {
	tree := of(nodeOf("a"), nodeOf("b", 0), nodeOf("c"))
	tree.Nodes[2].After, tree.Nodes[0].Jitter = []int{1}, 5
	signs := beating(of(nodeOf("a")))
	return []api.Op{
		submit(line(), "k"), poll(0), submit(line(), "k"), beat(1), draw(5), submit(tree, ""), poll(0), fail(2), complete(1, "one"),
		poll(0), tick(7), submit(signs, "s"), poll(0), poll(0), beat(4), beat(5), poll(3), complete(3, "two"), tick(9), cancel(2), forget(1), forget(2), submit(line(), "k"), tick(200), forget(3), {}, poll(0), tick(0),
	}
}

// play does a script from a step on, with a Compact ahead of some, till the store is dead; where it came to.
func (x *tale) play(ops []api.Op, from int) int {
	x.t.Helper()
	for i := from; i < len(ops); i++ {
		if i%9 == 5 {
			if x.compact() == api.ErrDiskDown {
				return i
			}
		}
		if a := x.do(ops[i]); a.Code == api.ErrDiskDown {
			return i + 1
		}
	}
	return len(ops)
}

// fates are all rows of n of these numbers.
func fates(n int, of ...int) [][]int {
	if n == 0 {
		return [][]int{nil}
	}
	var all [][]int
	for _, rest := range fates(n-1, of...) {
		for _, f := range of {
			all = append(all, append([]int{f}, rest...))
		}
	}
	return all
}

// P17.7 to P17.9: the power goes in every single call of a script, with fates of every kind; the store that is opened then, and again, goes on to the script's end, and loses its power there again.
func TestEveryCall(t *testing.T) {
	t.Parallel()
	ops := script()
	r := chance(1)
	lost := 0
	for calls := 0; ; calls++ {
		x := begin(t, big)
		x.d.Arm(calls)
		at := x.play(ops, 0)
		if !x.d.Down() {
			break
		}
		lost++
		x.do(tick(1))
		x.compact()
		for _, fate := range fates(3, -1, 1, 19, math.MaxInt) {
			c := x.twin()
			c.crash(fate...)
			c.open()
			c.same(r, 1)
			c.d.Arm(r.Intn(20))
			if c.play(ops, at); c.d.Down() {
				c.crash(anyFate(r)...)
				c.open()
			}
			c.same(r, 1)
		}
	}
	if lost < 50 {
		t.Errorf("only %d calls on the disk", lost)
	}
}

// P17.7: two losses behind one another, each in every single call of a shorter script, and a third one in Open.
func TestEveryPairOfCalls(t *testing.T) {
	t.Parallel()
	ops := []api.Op{submit(line(), "k"), poll(0), tick(3), fail(1), tick(9), poll(0), complete(2, "r"), draw(5), cancel(1), forget(1)}
	few := [][]int{nil, {math.MaxInt, math.MaxInt, math.MaxInt}, {20, 30, 0}, {1, 0, 60}}
	for first := 0; ; first++ {
		x := begin(t, big)
		x.d.Arm(first)
		at := x.play(ops, 0)
		if !x.d.Down() {
			return
		}
		for i, fate := range few {
			for second := 0; ; second++ {
				c := x.twin()
				c.crash(fate...)
				c.open()
				c.d.Arm(second)
				c.play(ops, at)
				if !c.d.Down() {
					break
				}
				c.crash(few[(i+second)%4]...)
				for calls := range 2 {
					c.d.Arm(calls)
					if c.open() == api.OK {
						break
					}
					c.crash(few[calls]...)
				}
				c.crash(few[second%4]...)
				c.open()
			}
		}
	}
}

// P17.7: one lost byte after the other, of each segment that is open to loss: never anything between.
func TestEveryByte(t *testing.T) {
	t.Parallel()
	ops := script()[:12]
	for calls := 0; ; calls++ {
		x := begin(t, big)
		x.d.Arm(calls)
		x.play(ops, 0)
		if !x.d.Down() {
			return
		}
		for place := range 2 {
			for f := range 260 {
				for _, others := range []int{0, math.MaxInt} {
					c := x.twin()
					fate := []int{others, others, others}
					fate[place] = f
					c.crash(fate...)
					c.open()
				}
			}
		}
	}
}

// P17.6 to P17.9: long tales by chance, with many losses of power, on disks with much room and with little.
func TestTales(t *testing.T) {
	t.Parallel()
	losses, stayed, ended := 0, 0, 0
	for seed := range 400 {
		r := chance(seed)
		x := begin(t, []int{300, 600, 1000, 2000, 5000, big, big}[r.Intn(7)])
		for range 120 {
			switch n := r.Intn(24); {
			case x.d.Down():
				losses++
				before := x.e.State()
				x.crash(anyFate(r)...)
				if r.Intn(4) == 0 {
					x.d.Arm(r.Intn(4))
				}
				for x.open() != api.OK {
					x.crash(anyFate(r)...)
				}
				if !sameState(before, x.e.State()) {
					stayed++
				}
				if r.Intn(3) == 0 {
					x.same(r, 2)
				}
			case n == 0:
				x.crash(anyFate(r)...)
				x.open()
			case n == 1:
				x.open()
			case n == 2:
				x.compact()
			case n < 5:
				x.d.Arm(r.Intn(8))
			default:
				x.do(anyOp(r, x.s.State()))
			}
		}
		ended += len(x.ended)
	}
	if losses < 1000 || stayed < 300 || ended < 1000 {
		t.Errorf("only %d losses of power, in %d of them an operation stayed, only %d runs had ended", losses, stayed, ended)
	}
}

// P17.8: tokens go on behind losses of power, and behind runs that were forgotten.
func TestTokens(t *testing.T) {
	x := begin(t, big)
	for i := range 60 {
		x.do(submit(of(nodeOf("a")), "k"))
		if i%3 == 0 {
			x.d.Arm(i % 5)
		}
		x.do(poll(0))
		x.do(complete(len(x.tokens), "r"))
		x.do(forget(i + 1))
		if i%4 == 0 {
			x.compact()
		}
		x.crash([]int{0, 1, 19, 40, math.MaxInt}[i%5], 1)
		x.open()
		for _, run := range x.s.State().Runs {
			x.do(cancel(run.ID))
			x.do(forget(run.ID))
		}
		if s := x.s.State(); len(s.Runs) != 0 {
			x.fatal("P17.8: %+v", s)
		}
	}
	if len(x.tokens) < 30 {
		t.Errorf("P17.8: only %d tokens", len(x.tokens))
	}
}

// P17.8: a run that has ended, in each way, stays so behind each loss of power, till a Forget of it that was answered OK, or that was under way.
func TestEndedStays(t *testing.T) {
	ends := map[int][]api.Op{
		api.RunSucceeded: {submit(of(nodeOf("a")), "k"), poll(0), complete(1, "some result")},
		api.RunFailed:    {submit(line(), "k"), poll(0), fail(1), tick(4), poll(0), fail(2)},
		api.RunCancelled: {submit(line(), "k"), poll(0), cancel(1)},
		api.RunExpired:   {submit(line(), "k"), poll(0), tick(1000)},
	}
	for status, ops := range ends {
		for calls := range 2 {
			for _, f := range []int{0, 10, 19, math.MaxInt} {
				x := begin(t, big)
				for _, o := range ops {
					x.do(o)
				}
				x.crash(f)
				x.open()
				if r, code := x.s.Run(1); code != api.OK || r.Status != status {
					x.fatal("P17.8: run 1 is %+v, %d", r, code)
				}
				x.do(tick(5))
				x.d.Arm(calls)
				if a := x.do(forget(1)); a.Code != api.ErrDiskDown {
					x.fatal("P17.8: %+v", a)
				}
				x.crash(f)
				x.open()
				_, code := x.s.Run(1)
				if want := []api.Errno{api.OK, api.ErrEngineRun}[min(f/19, 1)]; code != want {
					x.fatal("P17.8: a Forget was under way, fate %d: %d; want %d", f, code, want)
				}
			}
		}
	}
}

// P17.6: a store with as many runs and tasks as may be.
func TestMany(t *testing.T) {
	t.Parallel()
	x := begin(t, api.MaxDisk)
	signs := beating(until(plain(64), 1<<40))
	for i := range 17 {
		x.do(submit(signs, fmt.Sprint("k", i)))
	}
	for range 40 {
		x.do(poll(0))
	}
	x.compact()
	x.do(beat(7))
	x.d.Arm(1)
	x.do(tick(3))
	x.crash(math.MaxInt)
	x.open()
	for i := range 16 {
		x.do(cancel(i + 1))
	}
	for i := range 241 {
		x.do(submit(of(nodeOf("a")), fmt.Sprint("l", i)))
	}
	x.compact()
	x.open()
	if s := x.s.State(); len(s.Runs) != 256 || s.NextToken != 41 {
		t.Errorf("P17.6: %d runs, next token %d", len(s.Runs), s.NextToken)
	}
}
