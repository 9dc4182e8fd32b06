package durable

import (
	"fmt"
	"math"
	"math/rand"
	"slices"
	"strconv"
	"strings"
	"testing"

	"escapement/api"
	"escapement/disk"
)

func chance(seed int) *rand.Rand { return rand.New(rand.NewSource(int64(seed))) }

// Operations.

func submit(p api.Plan, key string) api.Op { return api.Op{Kind: api.OpSubmit, Plan: p, Key: key} }

func poll(lane int) api.Op { return api.Op{Kind: api.OpPoll, Lane: lane, Worker: 7} }

func beat(token int) api.Op { return api.Op{Kind: api.OpBeat, Token: token} }

func complete(token int, result string) api.Op {
	return api.Op{Kind: api.OpComplete, Token: token, Result: []byte(result)}
}

func fail(token int) api.Op { return api.Op{Kind: api.OpFail, Token: token} }

func cancel(run int) api.Op { return api.Op{Kind: api.OpCancel, Run: run} }

func forget(run int) api.Op { return api.Op{Kind: api.OpForget, Run: run} }

func draw(luck uint64) api.Op { return api.Op{Kind: api.OpDraw, Luck: luck} }

func tick(ticks int) api.Op { return api.Op{Kind: api.OpTick, Ticks: ticks} }

// Plans of the examples' form.

func nodeOf(name string, needs ...int) api.Node {
	return api.Node{Name: name, Budget: 2, Close: 10, Base: 4, Cap: 8, Needs: needs}
}

func of(nodes ...api.Node) api.Plan { return api.Plan{Name: "p", Deadline: 100, Nodes: nodes} }

// line is the examples' P: a, and b that needs it.
func line() api.Plan { return of(nodeOf("a"), nodeOf("b", 0)) }

// plain has so many nodes without an edge.
func plain(nodes int) api.Plan {
	p := of()
	for i := range nodes {
		p.Nodes = append(p.Nodes, nodeOf("n"+strconv.Itoa(i)))
	}
	return p
}

// beating is a plan all of whose nodes want signs of life.
func beating(p api.Plan) api.Plan {
	p.Nodes = slices.Clone(p.Nodes)
	for i := range p.Nodes {
		p.Nodes[i].Beat = 3
	}
	return p
}

// until is a plan with another deadline.
func until(p api.Plan, deadline int) api.Plan {
	p.Deadline = deadline
	return p
}

// anyPlan is one that may be, with small numbers, so that much comes at one time.
func anyPlan(r *rand.Rand) api.Plan {
	p := until(plain(1+r.Intn(4)), 1+r.Intn(40))
	for i := range p.Nodes {
		n := &p.Nodes[i]
		n.Lane, n.Budget, n.Close, n.Beat, n.Jitter = r.Intn(3), 1+r.Intn(3), 1+r.Intn(7), max(0, r.Intn(9)-4), r.Intn(4)
		n.Base = 1 + r.Intn(3)
		n.Cap = n.Base + r.Intn(5)
		for ahead := range i {
			switch r.Intn(5) {
			case 0:
				n.Needs = append(n.Needs, ahead)
			case 1:
				n.After = append(n.After, ahead)
			}
		}
	}
	return p
}

// anyOp is one by chance, more often one that is let pass.
func anyOp(r *rand.Rand, s api.State) api.Op {
	run, token := 1+r.Intn(s.NextRun), 1+r.Intn(s.NextToken)
	if len(s.Runs) > 0 && r.Intn(4) > 0 {
		run = s.Runs[r.Intn(len(s.Runs))].ID
	}
	if tokens := tokensOf(s); len(tokens) > 0 && r.Intn(6) > 0 {
		token = tokens[r.Intn(len(tokens))]
	}
	switch r.Intn(24) {
	case 0, 1, 2:
		return anySubmit(r, s)
	case 3:
		return cancel(run)
	case 4, 5:
		return forget(run)
	case 6:
		return draw(r.Uint64() >> r.Intn(64))
	case 7, 8, 9:
		return complete(token, strings.Repeat("r", r.Intn(5)))
	case 10, 11:
		return fail(token)
	case 12, 13:
		return beat(token)
	case 14, 15, 16:
		return tick(r.Intn(9))
	case 17:
		return tick(r.Intn(60))
	case 18:
		return []api.Op{{}, {Kind: 10}, {Kind: api.OpPoll, Lane: 16}, beat(0), tick(-1), submit(of(), "k"), {Kind: api.OpDraw, Run: 1}}[r.Intn(7)]
	}
	o := poll(r.Intn(3))
	o.Worker = r.Intn(9)
	return o
}

func tokensOf(s api.State) (list []int) {
	for _, r := range s.Runs {
		for _, n := range r.Nodes {
			if n.State == api.NodeLeased {
				list = append(list, n.Token)
			}
		}
	}
	return list
}

// anySubmit has a key of few, or none; often a plan that is kept.
func anySubmit(r *rand.Rand, s api.State) api.Op {
	p := anyPlan(r)
	key := []string{"", "", "", "k", "key", "kk"}[r.Intn(6)]
	if len(s.Runs) > 0 && r.Intn(3) == 0 {
		kept := s.Runs[r.Intn(len(s.Runs))]
		return submit(kept.Plan, []string{key, kept.Key}[r.Intn(2)])
	}
	return submit(p, key)
}

// anyFate is a fate of some length, with numbers near and far.
func anyFate(r *rand.Rand) []int {
	far := []int{math.MinInt, -1, 0, 0, 1, 2, 17, 18, 24, 25, 41, 42, 43, 60, 70000, math.MaxInt, math.MaxInt, math.MaxInt}
	fate := make([]int, r.Intn(7))
	for i := range fate {
		fate[i] = far[r.Intn(len(far))]
		if r.Intn(3) == 0 {
			fate[i] = r.Intn(130)
		}
	}
	return fate
}

func toldOp(o api.Op) string {
	names := []string{"", "Submit", "Poll", "Beat", "Complete", "Fail", "Cancel", "Forget", "Draw", "Tick"}
	if o.Kind < 1 || o.Kind >= len(names) {
		return fmt.Sprintf("%+v", o)
	}
	name := names[o.Kind]
	switch o.Kind {
	case api.OpSubmit:
		return fmt.Sprintf("%s %q of %d nodes", name, o.Key, len(o.Plan.Nodes))
	case api.OpPoll:
		return fmt.Sprint(name, " ", o.Lane)
	}
	return fmt.Sprint(name, " ", o.Token+o.Run+int(o.Luck)+o.Ticks)
}

// desk has a store and the model of it side by side, each on a disk of its own; both disks are used alike.
type desk struct {
	t       *testing.T
	promise string
	d, twin *disk.Disk
	s       *Store
	m       *model
	story   []string
}

// on is a desk with what a disk holds.
func on(t *testing.T, promise string, d *disk.Disk) *desk {
	t.Helper()
	k := &desk{t: t, promise: promise, d: d, twin: d.Copy()}
	if code := k.open(); code != api.OK {
		t.Fatalf("%s: Open: %d", promise, code)
	}
	return k
}

// fork is the same desk, on copies of its disks, that were opened anew.
func (k *desk) fork() *desk {
	k.t.Helper()
	c := &desk{t: k.t, promise: k.promise, d: k.d.Copy(), twin: k.twin.Copy(), story: slices.Clone(k.story)}
	if code := c.open(); code != api.OK {
		k.t.Fatalf("%s: %v: Open: %d", k.promise, k.story, code)
	}
	return c
}

func (k *desk) note(format string, words ...any) {
	k.story = append(k.story, fmt.Sprintf(format, words...))
}

// open opens both anew; where that is refused both stay as they were.
func (k *desk) open() api.Errno {
	k.t.Helper()
	s, got := Open(k.d)
	m, want := openModel(k.twin)
	k.note("Open %d", want)
	if got != want || (s == nil) != (m == nil) {
		k.t.Fatalf("%s: %v: Open: %v, %d; want %d", k.promise, k.story, s, got, want)
	}
	if got == api.OK {
		k.s, k.m = s, m
	}
	k.alike()
	return got
}

func (k *desk) crash(fate []int) {
	k.d.Crash(fate)
	k.twin.Crash(fate)
	k.note("Crash %v", fate)
}

func (k *desk) arm(calls int) {
	k.d.Arm(calls)
	k.twin.Arm(calls)
	k.note("Arm %d", calls)
}

// do asks both, and holds the answers, all that can be asked then, and both disks against each other.
func (k *desk) do(o api.Op) api.Answer {
	k.t.Helper()
	got, want := k.s.Do(o), k.m.Do(o)
	k.note("%s %d", toldOp(o), want.Code)
	if !sameAnswer(got, want) {
		k.t.Fatalf("%s: %v:\n%+v;\nwant %+v", k.promise, k.story, got, want)
	}
	if got.Code != api.OK && !sameAnswer(got, api.Answer{Code: got.Code}) {
		k.t.Fatalf("%s: %v: it was refused, but something is answered: %+v", k.promise, k.story, got)
	}
	k.alike()
	return got
}

func (k *desk) compact() api.Errno {
	k.t.Helper()
	got, want := k.s.Compact(), k.m.Compact()
	k.note("Compact %d", want)
	if got != want {
		k.t.Fatalf("%s: %v: %d; want %d", k.promise, k.story, got, want)
	}
	k.alike()
	return got
}

func (k *desk) alike() {
	k.t.Helper()
	if k.s != nil {
		sameViews(k.t, fmt.Sprintf("%s: %v", k.promise, k.story), k.s, k.m.e)
	}
	if got, want := whole(k.d), whole(k.twin); got != want {
		k.t.Fatalf("%s: %v: the disk has\n%s;\nwant\n%s", k.promise, k.story, got, want)
	}
}

// pass does operations that are all let pass.
func (k *desk) pass(ops ...api.Op) *desk {
	k.t.Helper()
	for _, o := range ops {
		if a := k.do(o); a.Code != api.OK {
			k.t.Fatalf("%s: %v: %d", k.promise, k.story, a.Code)
		}
	}
	return k
}

// refuses does operations that are refused, and looks whether nothing is answered beside that, and nothing has changed, on the disk neither.
func (k *desk) refuses(code api.Errno, ops ...api.Op) *desk {
	k.t.Helper()
	for _, o := range ops {
		k.leaves(func() {
			if a := k.do(o); !sameAnswer(a, api.Answer{Code: code}) {
				k.t.Fatalf("%s: %v: %+v; want %d", k.promise, k.story, a, code)
			}
		})
	}
	return k
}

// leaves holds that nothing changes, neither in the store nor on the disk.
func (k *desk) leaves(call func()) {
	k.t.Helper()
	s, d := k.s.State(), whole(k.d)
	call()
	if got := k.s.State(); !sameState(got, s) {
		k.t.Fatalf("%s: %v: State has become %+v; it was %+v", k.promise, k.story, got, s)
	}
	if got := whole(k.d); got != d {
		k.t.Fatalf("%s: %v: the disk has become\n%s;\nit was\n%s", k.promise, k.story, got, d)
	}
}

// is holds the answer of a call that has no other.
func (k *desk) is(got, want api.Errno) {
	k.t.Helper()
	if got != want {
		k.t.Fatalf("%s: %v: %d; want %d", k.promise, k.story, got, want)
	}
}
