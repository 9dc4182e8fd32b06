package engine

import (
	"fmt"
	"math"
	"math/rand"
	"slices"
	"strconv"
	"strings"
	"testing"

	"escapement/api"
	"escapement/plan"
)

func chance(seed int64) *rand.Rand { return rand.New(rand.NewSource(seed)) }

// Operations.

func submit(p api.Plan, key string) api.Op { return api.Op{Kind: api.OpSubmit, Plan: p, Key: key} }

func poll(lane int) api.Op { return api.Op{Kind: api.OpPoll, Lane: lane, Worker: 7} }

func beat(token int) api.Op { return api.Op{Kind: api.OpBeat, Token: token} }

func complete(token int, result string) api.Op {
	return api.Op{Kind: api.OpComplete, Token: token, Result: []byte(result)}
}

func fail(token int) api.Op { return api.Op{Kind: api.OpFail, Token: token} }

func cancel(run int) api.Op { return api.Op{Kind: api.OpCancel, Run: run} }

func forget(run int) api.Op { return api.Op{Kind: api.OpForget, Run: run} }

func draw(luck uint64) api.Op { return api.Op{Kind: api.OpDraw, Luck: luck} }

func tick(ticks int) api.Op { return api.Op{Kind: api.OpTick, Ticks: ticks} }

// Plans of the examples' form.

func node(name string, needs, after []int) api.Node {
	return api.Node{Name: name, Budget: 2, Close: 10, Base: 4, Cap: 8, Needs: needs, After: after}
}

func of(nodes ...api.Node) api.Plan { return api.Plan{Name: "p", Deadline: 100, Nodes: nodes} }

func list(nodes ...int) []int { return nodes }

// line is the examples' P: a, b [0].
func line() api.Plan { return of(node("a", nil, nil), node("b", list(0), nil)) }

// plain has so many nodes without an edge.
func plain(nodes int) api.Plan {
	p := of()
	for i := range nodes {
		p.Nodes = append(p.Nodes, node("n"+strconv.Itoa(i), nil, nil))
	}
	return p
}

// with turns each node of a plan.
func with(p api.Plan, turn func(n *api.Node)) api.Plan {
	p = planOf(p)
	for i := range p.Nodes {
		turn(&p.Nodes[i])
	}
	return p
}

func until(p api.Plan, deadline int) api.Plan {
	p.Deadline = deadline
	return p
}

// anyPlan is one that may be, with small numbers, so that many things come at one time.
func anyPlan(r *rand.Rand) api.Plan {
	p := until(plain(1+r.Intn(5)), 1+r.Intn(40))
	row := r.Perm(len(p.Nodes))
	for i := range p.Nodes {
		n := &p.Nodes[i]
		n.Lane, n.Budget, n.Close, n.Beat, n.Jitter = r.Intn(3), 1+r.Intn(3), 1+r.Intn(7), max(0, r.Intn(9)-4), r.Intn(4)
		n.Base = 1 + r.Intn(3)
		n.Cap = n.Base + r.Intn(5)
	}
	for range r.Intn(2 * len(row)) {
		if from := r.Intn(len(row)); from > 0 {
			lay(p, row[from], row[r.Intn(from)], r.Intn(3) == 0)
		}
	}
	return p
}

// lay puts an edge into one of both lists, where it belongs, unless it is there.
func lay(p api.Plan, from, to int, after bool) {
	n := &p.Nodes[from]
	if slices.Contains(n.Needs, to) || slices.Contains(n.After, to) {
		return
	}
	edges := &n.Needs
	if after {
		edges = &n.After
	}
	*edges = append(*edges, to)
	slices.Sort(*edges)
}

// strange are numbers that are seldom something's: below the first, at the limits and beyond, such whose low bits are a small number.
func strange() []int {
	return []int{math.MinInt, math.MinInt + 1, -1 << 62, -1 << 40, -1 << 32, -64, -2, -1, 0, 1, 2, 3, 15, 16, 17, 63, 64, 65, 255, 256, 257, 1023, 1024, 1025, 1 << 16, 1 << 32, 1<<32 + 1, 1<<40 - 1, 1 << 40, 1<<40 + 1, 1<<40 + 2, 1<<62 - 1, 1 << 62, 1<<62 + 1, math.MaxInt - 1, math.MaxInt}
}

// text tells a note: its time, kind, run and node, and the fields that its kind has; what else is not 0 too.
func text(n api.Note) string {
	kinds := map[int]string{
		api.NoteSubmitted: "Submitted due", api.NoteReady: "Ready node", api.NoteLeased: "Leased node attempt token due", api.NoteBeaten: "Beaten node attempt token due", api.NoteDone: "Done node attempt",
		api.NoteFailed: "Failed node attempt why", api.NoteBackoff: "Backoff node attempt due", api.NoteDead: "Dead node attempt why", api.NoteSkipped: "Skipped node", api.NoteEnded: "Ended why", api.NoteForgotten: "Forgotten",
	}
	words := strings.Fields(kinds[n.Kind])
	if len(words) == 0 {
		return fmt.Sprintf("%+v", n)
	}
	told := fmt.Sprintf("%d: %s %d", n.Time, words[0], n.Run)
	fields := map[string]int{"node": n.Node, "attempt": n.Attempt, "token": n.Token, "due": n.Due, "why": n.Why}
	for _, name := range words[1:] {
		told += fmt.Sprintf(" %s %d", name, fields[name])
		delete(fields, name)
	}
	for _, name := range []string{"node", "attempt", "token", "due", "why"} {
		if fields[name] != 0 {
			told += fmt.Sprintf(" and %s %d", name, fields[name])
		}
	}
	return told
}

func texts(notes []api.Note) (list []string) {
	for _, n := range notes {
		list = append(list, text(n))
	}
	return list
}

func told(o api.Op) string {
	switch o.Kind {
	case api.OpSubmit:
		text := fmt.Sprintf("Submit %q", o.Key)
		for _, n := range o.Plan.Nodes[:min(6, len(o.Plan.Nodes))] {
			text += fmt.Sprintf(" %+v", n)
		}
		return fmt.Sprintf("%s until %d", text, o.Plan.Deadline)
	case api.OpPoll:
		return fmt.Sprintf("Poll %d", o.Lane)
	case api.OpBeat, api.OpComplete, api.OpFail:
		return fmt.Sprintf("%s %d", map[int]string{api.OpBeat: "Beat", api.OpComplete: "Complete", api.OpFail: "Fail"}[o.Kind], o.Token)
	case api.OpCancel, api.OpForget:
		return fmt.Sprintf("%s %d", map[int]string{api.OpCancel: "Cancel", api.OpForget: "Forget"}[o.Kind], o.Run)
	case api.OpDraw:
		return fmt.Sprintf("Draw %d", o.Luck)
	case api.OpTick:
		return fmt.Sprintf("Tick %d", o.Ticks)
	}
	return fmt.Sprintf("%+v", o)
}

// desk has an engine and the model of it side by side.
type desk struct {
	t       *testing.T
	promise string
	e       *Engine
	m       *model
	ops     []string
}

func begin(t *testing.T, promise string) *desk {
	t.Helper()
	d := &desk{t: t, promise: promise, e: New(), m: newModel()}
	if d.e == nil {
		t.Fatal("P14.1: New() is nil")
	}
	d.stands()
	return d
}

// in is an engine that these operations led to; they are all let pass.
func in(t *testing.T, promise string, ops ...api.Op) *desk {
	t.Helper()
	return begin(t, promise).pass(ops...)
}

// from is an engine that From made of a state that may be.
func from(t *testing.T, promise string, s api.State) *desk {
	t.Helper()
	e, code := From(s)
	if e == nil || code != api.OK {
		t.Fatalf("%s: From(%+v): %d, broken: %v", promise, s, code, broken(s))
	}
	d := &desk{t: t, promise: promise, e: e, m: &model{s: copyOf(s)}, ops: []string{fmt.Sprintf("From %+v", s)}}
	d.stands()
	return d
}

// fork is the same desk, with a copy of its engine.
func (d *desk) fork() *desk {
	return &desk{d.t, d.promise, d.e.Copy(), d.m.clone(), slices.Clone(d.ops)}
}

// do asks both, and holds the answers, and all that can be asked then, against each other.
func (d *desk) do(o api.Op) api.Answer {
	d.t.Helper()
	d.ops = append(d.ops, told(o))
	got, want := d.e.Do(o), d.m.do(o)
	if !sameAnswer(got, want) {
		d.t.Fatalf("%s: %s:\n%+v\n%q;\nwant %+v\n%q", d.promise, d.story(), got, texts(got.Notes), want, texts(want.Notes))
	}
	d.stands()
	return got
}

func (d *desk) story() string { return strings.Join(d.ops, ", ") }

// stands holds all that can be asked against the model.
func (d *desk) stands() {
	d.t.Helper()
	s, want := d.e.State(), d.m.s
	if !sameState(s, want) {
		d.t.Fatalf("%s, P14.7: %s:\nState is %+v;\nwant %+v", d.promise, d.story(), s, want)
	}
	if d.e.Now() != want.Now {
		d.t.Fatalf("%s, P14.1: %s: Now is %d, not %d", d.promise, d.story(), d.e.Now(), want.Now)
	}
	due, ok := d.e.Due()
	if first := append(slices.Clone(want.Timers), api.Timer{})[0].Due; due != first || ok != (len(want.Timers) > 0) {
		d.t.Fatalf("%s, P14.1: %s: Due is %d, %t, not %d", d.promise, d.story(), due, ok, first)
	}
	var ready [18]int
	for _, x := range want.Ready {
		ready[d.m.laneOf(x)+1]++
	}
	for i, n := range ready {
		if got := d.e.Ready(i - 1); got != n {
			d.t.Fatalf("%s, P14.1: %s: Ready(%d) is %d, not %d", d.promise, d.story(), i-1, got, n)
		}
	}
	for _, r := range want.Runs {
		if got, code := d.e.Run(r.ID); !sameRun(got, r) || code != api.OK {
			d.t.Fatalf("%s, P14.1: %s: Run(%d) is %+v, %d; want %+v", d.promise, d.story(), r.ID, got, code, r)
		}
	}
}

// pass does operations that are all let pass.
func (d *desk) pass(ops ...api.Op) *desk {
	d.t.Helper()
	for _, o := range ops {
		if a := d.do(o); a.Code != api.OK {
			d.t.Fatalf("%s: %s: %d", d.promise, d.story(), a.Code)
		}
	}
	return d
}

// notes does an operation that is let pass, and holds its notes, as text tells them, against these.
func (d *desk) notes(o api.Op, want ...string) api.Answer {
	d.t.Helper()
	a := d.do(o)
	if got := texts(a.Notes); a.Code != api.OK || !slices.Equal(got, want) {
		d.t.Fatalf("%s: %s: %d\n%q;\nwant %q", d.promise, d.story(), a.Code, got, want)
	}
	return a
}

// refuses does an operation that is refused, and looks whether nothing is answered beside that, and nothing has changed.
func (d *desk) refuses(code api.Errno, ops ...api.Op) {
	d.t.Helper()
	for _, o := range ops {
		ahead := d.e.State()
		if a := d.do(o); !sameAnswer(a, api.Answer{Code: code}) {
			d.t.Fatalf("%s: %s: %+v; want %d", d.promise, d.story(), a, code)
		}
		if !sameState(d.e.State(), ahead) {
			d.t.Fatalf("P14.15: %s: it was refused, but the state has changed", d.story())
		}
	}
}

// task polls a lane and holds the task against what is wanted.
func (d *desk) task(lane int, want api.Task) {
	d.t.Helper()
	if a := d.do(poll(lane)); !sameAnswer(api.Answer{Task: a.Task}, api.Answer{Task: want}) || a.Code != api.OK {
		d.t.Fatalf("%s: %s: %d, %+v; want %+v", d.promise, d.story(), a.Code, a.Task, want)
	}
}

// timers holds the timers against these, in the order in which they come: a time, a kind, a run, a node each.
func (d *desk) timers(want ...api.Timer) {
	d.t.Helper()
	if got := d.e.State().Timers; !slices.Equal(got, want) {
		d.t.Fatalf("%s: %s: timers are %v; want %v", d.promise, d.story(), got, want)
	}
}

func (d *desk) ready(want ...api.Ref) {
	d.t.Helper()
	if got := d.e.State().Ready; !slices.Equal(got, want) {
		d.t.Fatalf("%s: %s: ready are %v; want %v", d.promise, d.story(), got, want)
	}
}

// nodes holds the states of a run's nodes against these.
func (d *desk) nodes(run int, want ...int) {
	d.t.Helper()
	r, code := d.e.Run(run)
	var got []int
	for _, n := range r.Nodes {
		got = append(got, n.State)
	}
	if !slices.Equal(got, want) || code != api.OK {
		d.t.Fatalf("%s: %s: run %d stands as %v, %d; want %v", d.promise, d.story(), run, got, code, want)
	}
}

// anyOp is one by chance, more often one that is let pass.
func anyOp(r *rand.Rand, m *model) api.Op {
	run := 1 + r.Intn(m.s.NextRun)
	if len(m.s.Runs) > 0 && r.Intn(4) > 0 {
		run = m.s.Runs[r.Intn(len(m.s.Runs))].ID
	}
	token := 1 + r.Intn(m.s.NextToken)
	if tokens := tokensOf(m.s); len(tokens) > 0 && r.Intn(6) > 0 {
		token = tokens[r.Intn(len(tokens))]
	}
	switch r.Intn(24) {
	case 0, 1, 2:
		return anySubmit(r, m)
	case 3:
		return cancel(run)
	case 4:
		return forget(run)
	case 5:
		return draw(r.Uint64() >> r.Intn(64))
	case 6, 7, 8:
		return complete(token, strings.Repeat("r", r.Intn(5)))
	case 9, 10, 11:
		return fail(token)
	case 12, 13:
		return beat(token)
	case 14, 15, 16, 17:
		return tick(anyTicks(r, m))
	case 18:
		return tick(r.Intn(4))
	}
	o := poll(r.Intn(3))
	o.Worker = r.Intn(9)
	return o
}

func tokensOf(s api.State) (list []int) {
	for _, r := range s.Runs {
		for _, n := range r.Nodes {
			if n.State == api.NodeLeased {
				list = append(list, n.Token)
			}
		}
	}
	return list
}

// anySubmit has a key of few, or none; often a plan that is kept.
func anySubmit(r *rand.Rand, m *model) api.Op {
	p := anyPlan(r)
	if len(m.s.Runs) > 0 && r.Intn(3) == 0 {
		p = planOf(m.s.Runs[r.Intn(len(m.s.Runs))].Plan)
	}
	return submit(p, []string{"", "", "", "k", "key", "kk"}[r.Intn(6)])
}

// anyTicks are few, or lead to about the next timer, or further.
func anyTicks(r *rand.Rand, m *model) int {
	if len(m.s.Timers) == 0 || r.Intn(3) == 0 {
		return r.Intn(12)
	}
	next := m.s.Timers[0].Due - m.s.Now
	switch r.Intn(8) {
	case 0:
		return next - 1
	case 1:
		return next + 1
	case 2:
		return m.s.Timers[r.Intn(len(m.s.Timers))].Due - m.s.Now
	}
	return next
}

// mayBe looks whether a plan is one, for tests that make them by hand.
func mayBe(t *testing.T, p api.Plan) api.Plan {
	t.Helper()
	if node, code := plan.Check(p); code != api.OK {
		t.Fatalf("a plan of this test may not be: node %d, %d", node, code)
	}
	return p
}
