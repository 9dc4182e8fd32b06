package engine

import (
	"fmt"
	"math/rand"
	"slices"
	"strings"
	"sync"
	"testing"
	"unsafe"

	"escapement/api"
	"escapement/pace"
)

// What follows, P14.10 to P14.15; all that a few operations can come to; whose the memory is; chance.

// auditor reads what an engine answers from its beginning on, and holds it against P14.12 to P14.14 by the notes alone; it knows nothing of how the engine, or the model, goes on.
type auditor struct {
	t     *testing.T
	token int // the last that was given
	count int // notes so far
	runs  map[int]*audited
	lanes [16][]waited
}

// audited is what notes have told of a run.
type audited struct {
	plan  api.Plan
	due   int
	nodes []auditedNode
}

type auditedNode struct {
	settled, done bool
	attempts      int
	close, beat   int // of the lease
	wake          int // of the backoff; 0: it is in none
	waits         int // its place in the lane's list, from 1 on; 0: it does not wait
}

// waited is a node that became ready, and when it was leased (as the count of notes; 0: it was not).
type waited struct{ ready, leased int }

func newAuditor(t *testing.T) *auditor { return &auditor{t: t, runs: map[int]*audited{}} }

func (a *auditor) fault(promise, what string, n api.Note) {
	a.t.Helper()
	a.t.Fatalf("%s: %s: %s", promise, what, text(n))
}

func (a *auditor) hears(o api.Op, x api.Answer) {
	a.t.Helper()
	if o.Kind == api.OpSubmit && x.Code == api.OK && !x.Again {
		a.runs[x.Run] = &audited{plan: o.Plan, nodes: make([]auditedNode, len(o.Plan.Nodes))}
	}
	for _, n := range x.Notes {
		a.count++
		r := a.runs[n.Run]
		if r == nil {
			a.fault("P14.2", "no such run was submitted", n)
		}
		a.one(r, n)
		if n.Kind == api.NoteLeased && r.plan.Nodes[n.Node].Beat != 0 {
			r.nodes[n.Node].beat = x.Task.BeatBy
		}
	}
}

func (a *auditor) one(r *audited, n api.Note) {
	a.t.Helper()
	x := &r.nodes[n.Node]
	switch n.Kind {
	case api.NoteSubmitted:
		r.due = n.Due
	case api.NoteReady:
		if x.wake != 0 && x.wake != n.Time {
			a.fault("P14.13", fmt.Sprintf("its backoff ends at %d", x.wake), n)
		}
		x.wake = 0
		lane := r.plan.Nodes[n.Node].Lane
		a.lanes[lane] = append(a.lanes[lane], waited{ready: a.count})
		x.waits = len(a.lanes[lane])
	case api.NoteLeased:
		a.leased(r, x, n)
	case api.NoteBeaten:
		x.beat = n.Due
	case api.NoteDone:
		x.done, x.settled = true, true
	case api.NoteDead, api.NoteSkipped:
		x.settled = true
	case api.NoteFailed:
		if n.Why == api.WhyClosed && n.Time != x.close || n.Why == api.WhyBeat && n.Time != x.beat || n.Time > x.close || x.beat != 0 && n.Time > x.beat {
			a.fault("P14.13", fmt.Sprintf("it is closed at %d, the beat is due at %d", x.close, x.beat), n)
		}
	case api.NoteBackoff:
		x.wake = n.Due
	case api.NoteEnded:
		open := slices.ContainsFunc(r.nodes, func(x auditedNode) bool { return !x.done })
		if (n.Why == api.RunSucceeded) == open || slices.ContainsFunc(r.nodes, func(x auditedNode) bool { return !x.settled }) {
			a.fault("P14.14", "its nodes do not stand so", n)
		}
		if (n.Why == api.RunExpired) != (n.Time == r.due) || n.Time > r.due {
			a.fault("P14.13", fmt.Sprintf("it is due at %d", r.due), n)
		}
	}
}

func (a *auditor) leased(r *audited, x *auditedNode, n api.Note) {
	a.t.Helper()
	at := r.plan.Nodes[n.Node]
	if x.waits == 0 {
		a.fault("P14.12", "it is not ready", n)
	}
	a.lanes[at.Lane][x.waits-1].leased = a.count
	x.waits = 0
	if a.token++; n.Token != a.token {
		a.fault("P14.14", fmt.Sprintf("the last token was %d", a.token-1), n)
	}
	if x.attempts++; n.Attempt != x.attempts || x.attempts > at.Budget || x.settled {
		a.fault("P14.14", fmt.Sprintf("its budget is %d, it was leased %d times", at.Budget, x.attempts-1), n)
	}
	for _, on := range at.Needs {
		if !r.nodes[on].done {
			a.fault("P14.14", fmt.Sprintf("%d is not done", on), n)
		}
	}
	for _, on := range at.After {
		if !r.nodes[on].settled {
			a.fault("P14.14", fmt.Sprintf("%d is not settled", on), n)
		}
	}
	x.close, x.beat = n.Due, 0
}

// rows holds P14.12 against all that became ready and were leased.
func (a *auditor) rows() {
	a.t.Helper()
	for lane, row := range a.lanes {
		last := 0
		for _, x := range row {
			if x.leased > 0 && x.leased < last {
				a.t.Fatalf("P14.12: lane %d: %v", lane, row)
			}
			last = max(last, x.leased)
		}
	}
}

// inTime holds P14.13 against the timers.
func inTime(t *testing.T, e *Engine) {
	t.Helper()
	if due, ok := e.Due(); ok && due <= e.Now() {
		t.Fatalf("P14.13: it is %d, and a timer is due at %d", e.Now(), due)
	}
	for _, x := range e.State().Timers {
		if x.Due <= e.Now() {
			t.Fatalf("P14.13: it is %d, and there is %v", e.Now(), x)
		}
	}
}

// P14.1 to P14.15: operations by chance, beside the model; ever again a copy, or what From makes of the state, goes on beside both.
func TestCourses(t *testing.T) {
	t.Parallel()
	r := chance(1)
	kinds, whys, ends := map[int]int{}, map[int]int{}, map[int]int{}
	for range 250 {
		d, a := begin(t, "P14.1 to P14.7"), newAuditor(t)
		twin := d.e
		for range 150 {
			ahead := d.e.State()
			o := anyOp(r, d.m)
			x := d.do(o)
			a.hears(o, x)
			inTime(t, d.e)
			if x.Code != api.OK && !sameState(ahead, d.e.State()) {
				t.Fatalf("P14.15: %s: refused by %d, but the state has changed", d.story(), x.Code)
			}
			if twin != d.e {
				if y := twin.Do(o); !sameAnswer(x, y) || !sameState(twin.State(), d.m.s) {
					t.Fatalf("P14.1, P14.10: %s: the twin answers %+v, not %+v", d.story(), y, x)
				}
			}
			for _, n := range x.Notes {
				kinds[n.Kind]++
				if n.Kind == api.NoteEnded {
					ends[n.Why]++
				} else {
					whys[n.Why]++
				}
			}
			switch r.Intn(12) {
			case 0:
				twin = d.e.Copy()
			case 1:
				twin = from(t, "P14.10", d.e.State()).e
			case 2:
				d.e, twin = twin, d.e
			}
		}
		a.rows()
	}
	if len(kinds) != 11 || len(whys) != 7 || len(ends) != 4 {
		t.Errorf("these kinds of notes, whys and ends came up alone: %v, %v, %v", kinds, whys, ends)
	}
}

// P14.10: From takes all states that a new engine comes to by up to so many operations of these, and the engine, a copy and what From makes of its state answer alike.
func TestAllOfFew(t *testing.T) {
	t.Parallel()
	p := until(with(line(), func(n *api.Node) { n.Close, n.Beat, n.Base, n.Cap = 3, 2, 1, 2 }), 6)
	p.Nodes[1].Lane = 1
	q := until(with(of(node("x", nil, nil), node("y", nil, list(0))), func(n *api.Node) { n.Close, n.Budget, n.Base, n.Cap, n.Jitter = 2, 1, 1, 1, 1 }), 5)
	ops := []api.Op{submit(p, "k"), submit(q, ""), poll(0), poll(1), beat(1), complete(1, "x"), fail(1), complete(2, ""), fail(2), cancel(1), forget(1), draw(3), tick(1), tick(2)}
	seen := map[string]int{}
	var visit func(d *desk, left int)
	visit = func(d *desk, left int) {
		key := fmt.Sprint(d.m.s)
		if seen[key] >= left {
			return
		}
		seen[key] = left
		taken := from(t, "P14.10", d.m.s)
		for _, o := range ops {
			c := d.fork()
			x := c.do(o)
			f, _ := From(d.m.s)
			if y := f.Do(o); !sameAnswer(x, y) || !sameState(f.State(), c.m.s) {
				t.Fatalf("P14.10: %s: what From takes answers %+v, not %+v", c.story(), y, x)
			}
			if left > 1 {
				visit(c, left-1)
			}
		}
		taken.stands()
	}
	visit(begin(t, "P14.2"), 6)
	if len(seen) < 1000 {
		t.Errorf("only %d states", len(seen))
	}
}

// P14.11: a tick of a and one of b are one of a + b.
func TestTicksTogether(t *testing.T) {
	t.Parallel()
	r := chance(5)
	for range 300 {
		d := begin(t, "P14.11")
		for range 60 {
			d.do(anyOp(r, d.m))
		}
		for range 8 {
			a, b := anyTicks(r, d.m), r.Intn(60)
			one, two := d.e.Copy(), d.e.Copy()
			x, y, z := one.Do(tick(a)), one.Do(tick(b)), two.Do(tick(a+b))
			if x.Code != api.OK || y.Code != api.OK || z.Code != api.OK || !slices.Equal(append(x.Notes, y.Notes...), z.Notes) || !sameState(one.State(), two.State()) {
				t.Fatalf("P14.11: %s, %d and %d: %q; together %q", d.story(), a, b, texts(append(x.Notes, y.Notes...)), texts(z.Notes))
			}
			by := d.e.Copy()
			var notes []api.Note
			for range a + b {
				notes = append(notes, by.Do(tick(1)).Notes...)
			}
			if !slices.Equal(notes, z.Notes) || !sameState(by.State(), two.State()) {
				t.Fatalf("P14.11: %s, %d ticks one by one: %q; together %q", d.story(), a+b, texts(notes), texts(z.Notes))
			}
		}
	}
	for _, a := range []int{0, 1, 1 << 61, 1<<62 - 7, 1<<62 - 1, 1 << 62} {
		one := in(t, "P14.11", submit(line(), ""), poll(0))
		two := one.fork()
		x, y, z := one.do(tick(a)), one.do(tick(1<<62-a)), two.do(tick(1<<62))
		if !slices.Equal(append(x.Notes, y.Notes...), z.Notes) || !sameState(one.e.State(), two.e.State()) {
			t.Errorf("P14.11: %d, and the rest", a)
		}
	}
}

// P14.15: each kind of refusal, in states by chance: all that any call tells is as it was, and all goes on as if it had not been asked.
func TestRefused(t *testing.T) {
	t.Parallel()
	r := chance(6)
	codes := map[api.Errno]int{}
	for range 30 {
		d := begin(t, "P14.15")
		plain := New()
		for range 120 {
			o := anyOp(r, d.m)
			if x := d.m.clone().do(o); x.Code == api.OK {
				if y := plain.Do(o); !sameAnswer(d.do(o), y) {
					t.Fatalf("P14.15: %s: the one that was not asked for what is refused answers %+v", d.story(), y)
				}
			}
			for _, o := range []api.Op{submit(api.Plan{}, ""), submit(line(), "k"), poll(3), poll(1), beat(1 << 40), complete(d.m.s.NextToken, "x"), fail(1), cancel(1), forget(d.m.s.NextRun), {Kind: 9, Ticks: -1}} {
				if x := d.m.clone().do(o); x.Code != api.OK {
					codes[x.Code]++
					d.refuses(x.Code, o)
				}
			}
		}
		if !sameState(plain.State(), d.e.State()) {
			t.Fatalf("P14.15: %s: it stands otherwise than one that was not asked for what is refused", d.story())
		}
	}
	for _, code := range []api.Errno{api.ErrEngineKey, api.ErrEngineEmpty, api.ErrEngineToken, api.ErrEngineRun, api.ErrEngineEnded, api.ErrCodecOp, api.ErrPlanName} {
		if codes[code] == 0 {
			t.Errorf("%d was never the answer", code)
		}
	}
}

// W7: from any state on, if each lane is polled at least once within every gap ticks, all runs end in their bounds, whatever else is done.
func TestItEnds(t *testing.T) {
	t.Parallel()
	r := chance(7)
	for range 300 {
		d := begin(t, "W7")
		for range 60 {
			d.do(anyOp(r, d.m))
		}
		gap, tasks, begun := 1+r.Intn(3), 0, d.e.Now()
		for _, x := range d.m.s.Runs {
			if x.Status == api.RunLive {
				tasks += len(x.Nodes)
			}
		}
		ends := map[int]int{}
		for _, x := range d.m.s.Runs {
			if bound, code := pace.Bound(x.Plan, gap, max(0, tasks-1)); x.Status == api.RunLive && code == api.OK {
				ends[x.ID] = begun + bound
			}
		}
		for len(ends) > 0 {
			for lane := range 3 {
				d.do(poll(lane))
			}
			for range r.Intn(3) {
				if o := anyOp(r, d.m); o.Kind == api.OpComplete || o.Kind == api.OpFail || o.Kind == api.OpBeat {
					d.do(o)
				}
			}
			d.pass(tick(gap))
			for id, by := range ends {
				x, _ := d.e.Run(id)
				if x.Status != api.RunLive {
					delete(ends, id)
				} else if d.e.Now() >= by {
					t.Fatalf("W7: %s: run %d was to end by %d", d.story(), id, by)
				}
			}
		}
	}
}

// roomy has lists with spare room, which is filled, and texts of their own.
func roomy(p api.Plan) api.Plan {
	more := func(list []int) []int { return append(slices.Clone(list), 9, 9, 9)[:len(list)] }
	p = planOf(p)
	p.Name = strings.Clone(p.Name)
	for i := range p.Nodes {
		p.Nodes[i].Needs, p.Nodes[i].After, p.Nodes[i].Name = more(p.Nodes[i].Needs), more(p.Nodes[i].After), strings.Clone(p.Nodes[i].Name)
	}
	p.Nodes = append(p.Nodes, api.Node{Name: "room", Needs: []int{9}})[:len(p.Nodes)]
	return p
}

// wholePlan tells all of a plan, its lists' spare room too.
func wholePlan(p api.Plan) string {
	text := fmt.Sprint(p.Name, p.Deadline)
	for _, n := range p.Nodes[:cap(p.Nodes)] {
		text += fmt.Sprintf("; %v %v %v", n, n.Needs[:cap(n.Needs)], n.After[:cap(n.After)])
	}
	return text
}

// wholeState does so of a state.
func wholeState(s api.State) string {
	text := fmt.Sprint(s.Now, s.Luck, s.NextRun, s.NextToken, s.Ready[:cap(s.Ready)], s.Timers[:cap(s.Timers)])
	for _, r := range s.Runs[:cap(s.Runs)] {
		text += fmt.Sprintf("; %v %s %v", r, wholePlan(r.Plan), r.Nodes[:cap(r.Nodes)])
		for _, n := range r.Nodes[:cap(r.Nodes)] {
			text += fmt.Sprint(n.Result[:cap(n.Result)])
		}
	}
	return text
}

func spoilList[T any](list []T, with T) {
	for i := range list[:cap(list)] {
		list[:cap(list)][i] = with
	}
}

func spoilPlan(p api.Plan) {
	for _, n := range p.Nodes {
		spoilList(n.Needs, 63)
		spoilList(n.After, 63)
	}
	spoilList(p.Nodes, api.Node{Name: "spoilt", Lane: 3, Budget: 99})
}

func spoilRun(r api.RunState) {
	spoilPlan(r.Plan)
	for _, n := range r.Nodes {
		spoilList(n.Result, '#')
	}
	spoilList(r.Nodes, api.NodeState{State: 5, Attempts: 77, Token: 77, Worker: 77, Result: []byte("spoilt")})
}

func spoilState(s api.State) {
	for _, r := range s.Runs {
		spoilRun(r)
	}
	spoilList(s.Runs, api.RunState{ID: 77, Key: "spoilt"})
	spoilList(s.Ready, api.Ref{Run: 77, Node: 77})
	spoilList(s.Timers, api.Timer{Due: 77, Kind: 77, Run: 77})
}

func spoilAnswer(a api.Answer) {
	for _, row := range a.Task.Inputs {
		spoilList(row, '#')
	}
	spoilList(a.Task.Inputs, []byte("spoilt"))
	spoilList(a.Notes, api.Note{Kind: 77, Time: 77, Run: 77})
}

// P14.9: operations that are handed in are neither changed nor kept.
func TestOpsHandedIn(t *testing.T) {
	d := begin(t, "P14.9")
	p := roomy(of(node("a", nil, nil), node("b", list(0), nil), node("c", nil, list(0, 1)), node("d", list(0, 1), nil)))
	want := wholePlan(p)
	d.pass(submit(p, "k"), poll(0), submit(p, "k"))
	d.refuses(api.ErrEngineKey, submit(until(p, 50), "k"))
	if got := wholePlan(p); got != want {
		t.Errorf("P14.9: a plan was changed: %s; was %s", got, want)
	}
	spoilPlan(p)
	d.stands()
	result := append(append(make([]byte, 0, 70), "zero"...), "room"...)[:4]
	d.pass(api.Op{Kind: api.OpComplete, Token: 1, Result: result})
	if string(result[:8]) != "zeroroom" {
		t.Errorf("P14.9: a result was changed: %q", result[:8])
	}
	d.m.s = copyOf(d.m.s)
	spoilList(result, '#')
	d.stands()
	d.task(0, api.Task{Token: 2, Run: 1, Node: 1, Name: "b", Attempt: 1, Until: 10, Inputs: [][]byte{[]byte("zero")}})
	empty := make([]byte, 0, 9)
	d.pass(api.Op{Kind: api.OpComplete, Token: 2, Result: empty})
	spoilList(empty, '#')
	d.stands()
}

// P14.9: a state that is handed in is neither changed nor kept.
func TestStateHandedIn(t *testing.T) {
	d := gallery(t, "P14.9")
	s := copyOf(d.e.State())
	s.Runs, s.Ready, s.Timers = append(s.Runs, api.RunState{ID: 99})[:len(s.Runs)], append(s.Ready, api.Ref{Run: 99})[:len(s.Ready)], append(s.Timers, api.Timer{Due: 99})[:len(s.Timers)]
	for i := range s.Runs {
		r := &s.Runs[i]
		r.Plan, r.Nodes = roomy(r.Plan), append(r.Nodes, api.NodeState{State: 9})[:len(r.Nodes)]
		for j := range r.Nodes {
			r.Nodes[j].Result = append(r.Nodes[j].Result, "room"...)[:len(r.Nodes[j].Result)]
		}
	}
	want := wholeState(s)
	e, code := From(s)
	if code != api.OK || wholeState(s) != want {
		t.Fatalf("P14.9: From: %d, %s; was %s", code, wholeState(s), want)
	}
	d.e = e
	d.pass(poll(0), fail(6), tick(3))
	if wholeState(s) != want {
		t.Errorf("P14.9: what was handed in was changed later on: %s; was %s", wholeState(s), want)
	}
	spoilState(s)
	d.stands()
	d.pass(tick(20), poll(2), complete(10, "x"), tick(100))
}

// P14.9: what is answered is new memory: it can be turned, its spare room too, and nothing follows.
func TestAnswersAreNew(t *testing.T) {
	d := gallery(t, "P14.9")
	for range 2 {
		spoilState(d.e.State())
		d.stands()
		for id := range 9 {
			r, _ := d.e.Run(id)
			spoilRun(r)
		}
		d.stands()
	}
	p := of(node("a", nil, nil), node("b", nil, nil), node("c", list(0, 1), nil))
	ops := []api.Op{submit(with(p, func(n *api.Node) { n.Lane = 12 }), ""), poll(12), poll(12), complete(9, "nine"), complete(10, ""), poll(12), fail(11), tick(9), poll(12), tick(30), cancel(7), forget(7), tick(200)}
	for _, o := range ops {
		x := d.do(o)
		spoilAnswer(x)
		d.stands()
	}
}

// P14.9: no two lists of one answer share memory, nor do two answers.
func TestAnswersApart(t *testing.T) {
	d := gallery(t, "P14.9")
	s, other := d.e.State(), d.e.State()
	spoilRun(s.Runs[0])
	for i := range s.Runs[1:] {
		if !sameRun(s.Runs[1+i], other.Runs[1+i]) {
			t.Errorf("P14.9: run %d shares memory with the first", s.Runs[1+i].ID)
		}
	}
	if !sameState(other, d.m.s) {
		t.Error("P14.9: two states share memory")
	}
	p := of(node("a", nil, nil), node("b", nil, nil), node("c", list(0, 1), nil))
	d = in(t, "P14.9", submit(p, ""), poll(0), poll(0), complete(1, "one"), complete(2, "two"))
	x := d.do(poll(0)).Task.Inputs
	grown := append(x[0], "more"...)
	if string(grown) != "onemore" || string(x[1]) != "two" {
		t.Errorf("P14.9: inputs lie in one another: %q", x)
	}
	spoilList(x[0], '#')
	if string(x[1]) != "two" {
		t.Errorf("P14.9: inputs lie in one another: %q", x)
	}
}

// P14.9: texts are new memory too, handed in and handed out.
func TestTextsAreNew(t *testing.T) {
	p := roomy(line())
	key := strings.Clone("some key")
	d := begin(t, "P14.9")
	d.pass(submit(p, key))
	seen := map[*byte]string{}
	apart := func(what, text string) {
		t.Helper()
		at := unsafe.StringData(text)
		if by, is := seen[at]; is {
			t.Errorf("P14.9: %s shares memory with %s", what, by)
		}
		seen[at] = what
	}
	all := func(what string, r api.RunState) {
		t.Helper()
		apart(what+"'s key", r.Key)
		apart(what+"'s plan's name", r.Plan.Name)
		for _, n := range r.Plan.Nodes {
			apart(what+"'s node "+n.Name, n.Name)
		}
	}
	all("what was handed in", api.RunState{Key: key, Plan: p})
	r, _ := d.e.Run(1)
	all("Run", r)
	all("State", d.e.State().Runs[0])
	all("a copy", d.e.Copy().State().Runs[0])
	s := d.e.State()
	all("what From takes", s.Runs[0])
	e, _ := From(s)
	all("what From makes", e.State().Runs[0])
	a, b := d.e.Copy().Do(poll(0)), d.e.Do(poll(0))
	apart("a task", a.Task.Name)
	apart("another task", b.Task.Name)
	// A text that lies over bytes is turned with them.
	over := []byte("a key over bytes")
	lent := unsafe.String(&over[0], len(over))
	d.e.Do(submit(line(), lent))
	s = d.e.State()
	s.Runs[1].Key = lent
	e, _ = From(s)
	spoilList(over, '#')
	for _, x := range []*Engine{d.e, e} {
		if r, _ := x.Run(2); r.Key != "a key over bytes" {
			t.Errorf("P14.9: the key was kept: it is %q now", r.Key)
		}
	}
}

// R4: nil and empty lists, bytes and texts are one.
func TestNilAndEmpty(t *testing.T) {
	empty := of(node("a", []int{}, []int{}), node("b", list(0), []int{}))
	d := in(t, "R4", submit(empty, "k"))
	if a := d.do(submit(line(), "k")); !a.Again {
		t.Errorf("R4: %+v", a)
	}
	d.pass(poll(0), api.Op{Kind: api.OpComplete, Token: 1, Result: []byte{}})
	s := d.e.State()
	s.Runs[0].Nodes[0].Result, s.Runs[0].Nodes[1].Result = []byte{}, []byte{}
	from(t, "R4", s)
	from(t, "R4", api.State{NextRun: 1, NextToken: 1, Runs: []api.RunState{}, Ready: []api.Ref{}, Timers: []api.Timer{}})
}

// P14.9, R5: engines that are asked side by side, copies too, have nothing to do with one another.
func TestSideBySide(t *testing.T) {
	first := gallery(t, "P14.9")
	ends := make([]api.State, 8)
	var all sync.WaitGroup
	for i := range ends {
		d := first.fork()
		if i%2 == 0 {
			d.e, _ = From(first.e.State())
		}
		all.Go(func() {
			r := chance(9)
			for range 200 {
				o := anyOp(r, d.m)
				d.m.do(o)
				d.e.Do(o)
				if i%3 == 0 {
					d.e = d.e.Copy()
				}
			}
			ends[i] = d.e.State()
		})
	}
	all.Wait()
	first.stands()
	for i, end := range ends {
		if !sameState(end, ends[0]) {
			t.Errorf("R5: engine %d ends so: %+v; the first so: %+v", i, end, ends[0])
		}
	}
}

// As many runs, nodes and timers as there can be: all goes on, and in time.
func TestCrowd(t *testing.T) {
	wide := until(with(plain(64), func(n *api.Node) { n.Beat, n.Close, n.Budget, n.Jitter = 7, 9, 3, 40 }), 1000)
	for i := range wide.Nodes {
		wide.Nodes[i].Lane = i % 16
	}
	e := New()
	for range 16 {
		if a := e.Do(submit(wide, "")); a.Code != api.OK {
			t.Fatal(a.Code)
		}
	}
	leases := 0
	for range 40 {
		for lane := range 16 {
			for e.Ready(lane) > 0 {
				if a := e.Do(poll(lane)); a.Code != api.OK {
					t.Fatal(a.Code)
				}
				leases++
			}
		}
		if s := e.State(); len(broken(s)) > 0 {
			t.Fatalf("P14.10: %q", broken(s))
		}
		e = e.Copy()
		e.Do(tick(13))
	}
	if leases != 3*1024 {
		t.Errorf("P14.14: %d leases", leases)
	}
	for id := 1; id <= 16; id++ {
		if r, _ := e.Run(id); r.Status != api.RunFailed {
			t.Errorf("P14.14: run %d: %d", id, r.Status)
		}
	}
	if due, ok := e.Due(); ok {
		t.Errorf("P14.4: a timer is due at %d", due)
	}
}

// bytesOf gives numbers out of bytes, and then noughts.
func bytesOf(b []byte) func() int {
	return func() int {
		if len(b) == 0 {
			return 0
		}
		x := b[0]
		b = b[1:]
		return int(x)
	}
}

// FuzzEngine makes operations of bytes, and asks the engine and the model.
func FuzzEngine(f *testing.F) {
	f.Add([]byte{3, 1, 0, 5, 9, 0, 1, 2, 3, 4, 5, 6, 7})
	f.Add([]byte("some words of no meaning, long enough to submit a plan or two, and to poll"))
	f.Fuzz(func(t *testing.T, b []byte) {
		if len(b) > 400 {
			return
		}
		next := bytesOf(b)
		d := begin(t, "P14.1 to P14.7")
		for used := 0; used < len(b); used += 3 {
			kind, x, seed := next(), next(), next()
			switch kind % 9 {
			case 0:
				d.do(submit(anyPlan(rand.New(rand.NewSource(int64(seed)))), []string{"", "k", "l"}[x%3]))
			case 1, 2:
				d.do(poll(x % 4))
			case 3:
				d.do(beat(1 + x%16))
			case 4:
				d.do(complete(1+x%16, strings.Repeat("r", seed%66)))
			case 5:
				d.do(fail(1 + x%16))
			case 6:
				d.do([]api.Op{cancel(1 + x%8), forget(1 + x%8)}[seed%2])
			case 7:
				d.do(draw(uint64(seed)))
			case 8:
				d.do(tick(x % 20))
			}
		}
		from(t, "P14.10", d.e.State())
	})
}
