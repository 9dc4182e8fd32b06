package engine

import (
	"fmt"
	"math"
	"strings"
	"testing"

	"escapement/api"
	"escapement/codec"
	"escapement/pace"
)

// The chapter's examples, row by row, and promise by promise what is wanted, by hand.

func TestExamples(t *testing.T) {
	d := begin(t, "examples")
	d.refuses(api.ErrEngineEmpty, poll(0))
	d.refuses(api.ErrEngineToken, complete(1, ""))
	d.refuses(api.ErrEngineRun, cancel(1))
	d.notes(tick(0))
	if a := d.notes(submit(line(), "k"), "0: Submitted 1 due 100", "0: Ready 1 node 0"); a.Run != 1 || a.Again {
		t.Errorf("P14.2: %+v", a)
	}
	if a := d.notes(submit(line(), "k")); a.Run != 1 || !a.Again {
		t.Errorf("P14.2: %+v", a)
	}
	d.refuses(api.ErrEngineKey, submit(until(line(), 99), "k"))
	d.refuses(api.ErrEngineEmpty, poll(1))
	if a := d.notes(poll(0), "0: Leased 1 node 0 attempt 1 token 1 due 10"); fmt.Sprint(a.Task) != "{1 1 0 a 1 10 0 []}" {
		t.Errorf("P14.2: %v", a.Task)
	}
	d.notes(beat(1))
	d.refuses(api.ErrEngineEnded, forget(1))
	d.notes(tick(9))
	d.notes(tick(1), "10: Failed 1 node 0 attempt 1 why 2", "10: Backoff 1 node 0 attempt 1 due 14")
	d.refuses(api.ErrEngineToken, complete(1, ""))
	d.timers(api.Timer{Due: 14, Kind: 4, Run: 1}, api.Timer{Due: 100, Kind: 1, Run: 1})
	d.notes(tick(4), "14: Ready 1 node 0")
	d.task(0, api.Task{Token: 2, Run: 1, Name: "a", Attempt: 2, Until: 24})
	d.notes(complete(2, "xyz"), "14: Done 1 node 0 attempt 2", "14: Ready 1 node 1")
	d.task(0, api.Task{Token: 3, Run: 1, Node: 1, Name: "b", Attempt: 1, Until: 24, Inputs: [][]byte{[]byte("xyz")}})
	d.notes(fail(3), "14: Failed 1 node 1 attempt 1 why 1", "14: Backoff 1 node 1 attempt 1 due 18")
	d.notes(tick(1000), "18: Ready 1 node 1", "100: Dead 1 node 1 attempt 1 why 6", "100: Ended 1 why 5")
	if r, code := d.e.Run(1); d.e.Now() != 1014 || r.Status != 5 || r.Ended != 100 || code != 0 {
		t.Errorf("P14.2: Now %d; %+v, %d", d.e.Now(), r, code)
	}
	d.refuses(api.ErrEngineEnded, cancel(1))
	d.notes(forget(1), "1014: Forgotten 1")
	d.refuses(api.ErrEngineRun, forget(1))
	d.notes(submit(line(), ""), "1014: Submitted 2 due 1114", "1014: Ready 2 node 0")
	d.notes(cancel(2), "1014: Dead 2 node 0 attempt 0 why 5", "1014: Skipped 2 node 1", "1014: Ended 2 why 4")
	d.pass(submit(with(line(), func(n *api.Node) { n.Budget = 1 }), ""))
	d.task(0, api.Task{Token: 4, Run: 3, Name: "a", Attempt: 1, Until: 1024})
	d.notes(fail(4), "1014: Failed 3 node 0 attempt 1 why 1", "1014: Dead 3 node 0 attempt 1 why 4", "1014: Skipped 3 node 1", "1014: Ended 3 why 3")
	d.notes(tick(1 << 62))
	if d.e.Now() != 1<<62 {
		t.Errorf("P14.2: Now %d", d.e.Now())
	}
	d.refuses(api.ErrEngineTime, submit(line(), ""))
}

// DOC.md's examples of the whole, as far as they are an engine's.
func TestExamplesOfTheWhole(t *testing.T) {
	d := in(t, "example 1", submit(line(), ""))
	d.task(0, api.Task{Token: 1, Run: 1, Name: "a", Attempt: 1, Until: 10})
	d.notes(tick(9))
	d.notes(tick(1), "10: Failed 1 node 0 attempt 1 why 2", "10: Backoff 1 node 0 attempt 1 due 14")
	d.notes(tick(3))
	d.refuses(api.ErrEngineEmpty, poll(0))
	d.notes(tick(4), "14: Ready 1 node 0")

	d = in(t, "example 2", submit(line(), ""), poll(0))
	d.notes(complete(1, ""), "0: Done 1 node 0 attempt 1", "0: Ready 1 node 1")
	d.refuses(api.ErrEngineToken, complete(1, ""))

	d = in(t, "example 3", submit(line(), ""), poll(0))
	d.notes(fail(1), "0: Failed 1 node 0 attempt 1 why 1", "0: Backoff 1 node 0 attempt 1 due 4")
	d.notes(tick(1000), "4: Ready 1 node 0", "100: Dead 1 node 0 attempt 1 why 6", "100: Skipped 1 node 1", "100: Ended 1 why 5")

	d = in(t, "example 4", submit(line(), ""), poll(0), fail(1), tick(4), poll(0))
	d.notes(fail(2), "4: Failed 1 node 0 attempt 2 why 1", "4: Dead 1 node 0 attempt 2 why 4", "4: Skipped 1 node 1", "4: Ended 1 why 3")

	d = in(t, "example 5", submit(line(), ""))
	d.notes(cancel(1), "0: Dead 1 node 0 attempt 0 why 5", "0: Skipped 1 node 1", "0: Ended 1 why 4")
	d.refuses(api.ErrEngineEnded, cancel(1))
	d.notes(forget(1), "0: Forgotten 1")
	d.refuses(api.ErrEngineRun, cancel(1))

	d = in(t, "example 9", submit(line(), ""), submit(line(), ""))
	d.task(0, api.Task{Token: 1, Run: 1, Name: "a", Attempt: 1, Until: 10})
	d.task(0, api.Task{Token: 2, Run: 2, Name: "a", Attempt: 1, Until: 10})
	d.pass(complete(2, ""), complete(1, ""))
	d.task(0, api.Task{Token: 3, Run: 2, Node: 1, Name: "b", Attempt: 1, Until: 10, Inputs: [][]byte{nil}})
	d.task(0, api.Task{Token: 4, Run: 1, Node: 1, Name: "b", Attempt: 1, Until: 10, Inputs: [][]byte{nil}})
}

// P14.1: what New is.
func TestNew(t *testing.T) {
	e := New()
	if s := e.State(); !sameState(s, api.State{NextRun: 1, NextToken: 1}) {
		t.Errorf("P14.1: New() has %+v", s)
	}
	due, ok := e.Due()
	if e.Now() != 0 || due != 0 || ok {
		t.Errorf("P14.1: Now is %d, Due %d, %t", e.Now(), due, ok)
	}
	for _, n := range strange() {
		if got := e.Ready(n); got != 0 {
			t.Errorf("P14.1: Ready(%d) is %d", n, got)
		}
		if r, code := e.Run(n); !sameRun(r, api.RunState{}) || code != api.ErrEngineRun {
			t.Errorf("P14.1: Run(%d) is %+v, %d", n, r, code)
		}
	}
}

// gallery has runs in every status and nodes in every state; timers of every kind, and some of one time. Run 3 was forgotten.
func gallery(t *testing.T, promise string) *desk {
	t.Helper()
	rich := of(node("done", nil, nil), node("dead", nil, nil), node("skipped", list(1), nil), node("ready", list(0), nil), node("leased", nil, nil), node("backoff", nil, list(1)),
		node("waiting", list(0, 3), nil), node("again", nil, nil), node("beats", list(0), list(2)))
	for i, lane := range []int{0, 1, 0, 2, 0, 3, 0, 1, 15} {
		rich.Nodes[i].Lane = lane
	}
	rich.Nodes[1].Budget, rich.Nodes[5].Jitter, rich.Nodes[8].Beat = 1, 5, 6
	one := with(plain(1), func(n *api.Node) { n.Lane = 9 })
	d := in(t, promise, submit(rich, "rich"), submit(one, "won"), poll(9), complete(1, "a result"),
		submit(one, ""), cancel(3), forget(3), tick(2), draw(5),
		submit(with(one, func(n *api.Node) { n.Budget = 1 }), "lost"), poll(9), fail(2),
		submit(until(one, 1), "late"), tick(1), submit(line(), "off"), tick(1), cancel(6),
		poll(0), complete(3, "zero"), poll(1), fail(4), poll(3), fail(5), poll(0), poll(1), fail(7),
		submit(with(line(), func(n *api.Node) { n.Lane = 1 }), ""), submit(line(), "second"))
	wake, _ := pace.Wait(rich.Nodes[7], pace.Mix(0, 5), 1, 7, 1)
	d.pass(tick(wake), poll(15))
	back, _ := pace.Wait(rich.Nodes[5], pace.Mix(0, 5), 1, 5, 1)
	if back <= wake {
		t.Fatalf("the backoff of node 5 is %d, of node 7 %d", back, wake)
	}
	d.nodes(1, 5, 6, 7, 2, 3, 4, 1, 2, 3)
	for id, status := range map[int]int{1: 1, 2: 2, 4: 3, 5: 5, 6: 4, 7: 1, 8: 1} {
		if r, code := d.e.Run(id); r.Status != status || code != api.OK {
			t.Fatalf("run %d has the status %d, %d", id, r.Status, code)
		}
	}
	return d
}

// P14.1: Run of those that are kept, and of all others.
func TestRun(t *testing.T) {
	d := gallery(t, "P14.1")
	for _, id := range append(strange(), 3, 4, 5, 6, 7, 8, 9, 10) {
		_, code := d.e.Run(id)
		kept := id >= 1 && id <= 8 && id != 3
		if kept != (code == api.OK) || !kept && code != api.ErrEngineRun {
			t.Errorf("P14.1: Run(%d): %d", id, code)
		}
	}
	r, _ := d.e.Run(1)
	for i, want := range []api.NodeState{
		{State: 5, Attempts: 1, Result: []byte("zero")}, {State: 6, Attempts: 1}, {State: 7}, {State: 2}, {State: 3, Attempts: 1, Token: 6, Worker: 7},
		{State: 4, Attempts: 1}, {State: 1}, {State: 2, Attempts: 1}, {State: 3, Attempts: 1, Token: 8, Worker: 7},
	} {
		if !sameNode(r.Nodes[i], want) {
			t.Errorf("P14.1: node %d is %+v, not %+v", i, r.Nodes[i], want)
		}
	}
	for id, want := range map[int]string{1: "rich 0 0", 2: "won 0 0", 4: "lost 2 2", 5: "late 2 3", 6: "off 3 4", 7: " 4 0", 8: "second 4 0"} {
		if r, _ := d.e.Run(id); fmt.Sprintf("%s %d %d", r.Key, r.Submitted, r.Ended) != want || r.ID != id {
			t.Errorf("P14.1: run %d is %+v, not %s", id, r, want)
		}
	}
}

// P14.1: Ready counts lane by lane, and no lane that is none.
func TestReady(t *testing.T) {
	d := begin(t, "P14.1")
	p := of()
	for i := range 40 {
		n := node(fmt.Sprint("n", i), nil, nil)
		n.Lane = (i * i) % 16
		p.Nodes = append(p.Nodes, n)
	}
	d.pass(submit(p, ""), poll(0), poll(4), poll(4))
	for lane, want := range map[int]int{0: 9, 1: 10, 4: 8, 9: 10, 2: 0, 15: 0} {
		if got := d.e.Ready(lane); got != want {
			t.Errorf("P14.1: Ready(%d) is %d, not %d", lane, got, want)
		}
	}
	for _, lane := range strange() {
		if got := d.e.Ready(lane); got != 0 && (lane < 0 || lane > 15) {
			t.Errorf("P14.1: Ready(%d) is %d", lane, got)
		}
	}
}

// P14.1: Due tells the first timer, of whichever kind.
func TestDue(t *testing.T) {
	p := of(node("a", nil, nil))
	p.Nodes[0].Beat = 3
	d := begin(t, "P14.1")
	wants := func(due int) {
		t.Helper()
		if got, ok := d.e.Due(); got != due || !ok {
			t.Errorf("P14.1: %s: Due is %d, %t, not %d", d.story(), got, ok, due)
		}
	}
	d.pass(submit(p, ""))
	wants(100)
	d.pass(submit(until(line(), 50), ""))
	wants(50)
	d.pass(poll(0))
	wants(3)
	d.pass(tick(2), beat(1))
	wants(5)
	d.pass(poll(0), tick(2), beat(1), tick(2), beat(1), tick(2), beat(1), tick(1), beat(1))
	wants(10)
	d.pass(fail(1))
	wants(12)
	d.pass(fail(2))
	wants(13)
	d.pass(cancel(1))
	wants(13)
	d.pass(cancel(2))
	if due, ok := d.e.Due(); due != 0 || ok {
		t.Errorf("P14.1: Due is %d, %t, without timers", due, ok)
	}
}

// P14.1: a copy has the same; what each kind of operation does to the one is not seen in the other.
func TestCopy(t *testing.T) {
	for _, o := range []api.Op{submit(line(), "new"), submit(line(), "second"), poll(2), poll(0), beat(8), complete(8, "x"), complete(6, ""), fail(6), fail(8), cancel(1), cancel(7), forget(2), forget(5), draw(1), tick(1), tick(7), tick(1000), tick(1 << 40)} {
		d := gallery(t, "P14.1")
		c, other := d.fork(), d.fork()
		c.stands()
		d.pass(o)
		c.stands()
		c.pass(o)
		if !sameState(c.e.State(), d.e.State()) {
			t.Errorf("P14.1: behind %s a copy has %+v, not %+v", told(o), c.e.State(), d.e.State())
		}
		other.stands()
		last := d.fork()
		d.pass(tick(500))
		last.stands()
		last.pass(submit(plain(3), ""), poll(0))
		d.stands()
		other.stands()
	}
}

// P14.2: codec.Check's error comes ahead of all else, whatever the row would say.
func TestCheckFirst(t *testing.T) {
	faulty := func(turn func(p *api.Plan)) api.Op {
		p := line()
		turn(&p)
		return submit(p, "second")
	}
	all := map[api.Errno][]api.Op{
		api.ErrCodecOp: {{}, {Kind: 10}, {Kind: -1}, {Kind: math.MaxInt}, {Kind: 2, Lane: 16}, {Kind: 2, Lane: -1}, {Kind: 2, Worker: -1}, {Kind: 2, Worker: 1<<40 + 1}, {Kind: 2, Run: 1}, {Kind: 3}, {Kind: 3, Token: 1<<40 + 1}, {Kind: 3, Token: 6, Run: 1},
			{Kind: 4, Token: 6, Result: make([]byte, 65)}, {Kind: 4}, {Kind: 5, Token: -6}, {Kind: 5, Token: 6, Result: []byte{1}}, {Kind: 6}, {Kind: 6, Run: 1<<40 + 1}, {Kind: 6, Run: 1, Token: 1}, {Kind: 7}, {Kind: 7, Run: 2, Luck: 1}, {Kind: 8, Ticks: 1}, {Kind: 9, Ticks: -1}, {Kind: 9, Ticks: 1<<62 + 1}, {Kind: 9, Key: "k"},
			submit(line(), strings.Repeat("k", 41)), {Kind: 1, Plan: line(), Token: 1}},
		api.ErrPlanName:     {faulty(func(p *api.Plan) { p.Name = "" }), {Kind: 1}},
		api.ErrPlanDeadline: {faulty(func(p *api.Plan) { p.Deadline = 0 }), faulty(func(p *api.Plan) { p.Deadline = 1<<40 + 1 })},
		api.ErrPlanSize:     {faulty(func(p *api.Plan) { p.Nodes = nil }), submit(plain(65), "")},
		api.ErrPlanNode:     {faulty(func(p *api.Plan) { p.Nodes[1].Name = "a" })},
		api.ErrPlanField:    {faulty(func(p *api.Plan) { p.Nodes[0].Lane = 16 }), faulty(func(p *api.Plan) { p.Nodes[0].Budget = 0 })},
		api.ErrPlanEdge:     {faulty(func(p *api.Plan) { p.Nodes[0].Needs = list(0) })},
		api.ErrPlanCycle:    {faulty(func(p *api.Plan) { p.Nodes[0].After = list(1) })},
	}
	end := gallery(t, "P14.2").pass(tick(1 << 62))
	for _, d := range []*desk{begin(t, "P14.2"), gallery(t, "P14.2"), end} {
		for code, ops := range all {
			for _, o := range ops {
				if codec.Check(o) != code {
					t.Fatalf("codec.Check(%+v) is %d", o, codec.Check(o))
				}
			}
			d.refuses(code, ops...)
		}
	}
}

// P14.2: a submission, and one whose key is kept: also by a run that has ended, till it is forgotten.
func TestSubmit(t *testing.T) {
	p := of(node("a", list(2), nil), node("b", nil, nil), node("c", nil, list(3)), node("d", nil, nil))
	p.Nodes[1].Lane, p.Nodes[3].Lane = 4, 3
	d := in(t, "P14.2", tick(7))
	if a := d.notes(submit(p, "k"), "7: Submitted 1 due 107", "7: Ready 1 node 1", "7: Ready 1 node 3"); a.Run != 1 || a.Again {
		t.Errorf("P14.2: %+v", a)
	}
	d.nodes(1, 1, 2, 1, 2)
	d.ready(api.Ref{Run: 1, Node: 3}, api.Ref{Run: 1, Node: 1})
	d.timers(api.Timer{Due: 107, Kind: 1, Run: 1})
	again := func() {
		t.Helper()
		if a := d.notes(submit(planOf(p), "k")); !sameAnswer(a, api.Answer{Run: 1, Again: true}) {
			t.Errorf("P14.2: %+v", a)
		}
		d.refuses(api.ErrEngineKey, submit(until(p, 99), "k"), submit(line(), "k"), submit(with(p, func(n *api.Node) { n.Jitter = 1 }), "k"))
	}
	again()
	d.pass(submit(p, "K"), submit(p, "kk"), submit(p, ""), submit(p, ""), submit(line(), ""), submit(p, "k\x00"), submit(p, strings.Repeat("k", 40)))
	again()
	d.pass(poll(3), poll(4), tick(3))
	again()
	d.pass(cancel(1))
	again()
	d.pass(tick(1 << 30))
	again()
	d.pass(forget(1))
	if a := d.notes(submit(line(), "k"), "1073741834: Submitted 9 due 1073741934", "1073741834: Ready 9 node 0"); a.Run != 9 || a.Again {
		t.Errorf("P14.2: %+v", a)
	}
	d.refuses(api.ErrEngineKey, submit(p, "k"))
}

// endedRun is one that was cancelled at 0.
func endedRun(id int) api.RunState {
	return api.RunState{ID: id, Plan: plain(1), Status: api.RunCancelled, Nodes: []api.NodeState{{State: api.NodeDead}}}
}

// P14.2: each of Submit's errors alone, and with each set of the others; ahead of them all a key that is kept.
func TestSubmitErrors(t *testing.T) {
	for set := range 16 {
		time, runs, tasks, number := set&1 > 0, set&2 > 0, set&4 > 0, set&8 > 0
		s := api.State{Now: 1<<62 - 101, NextRun: 1 << 40, NextToken: 1}
		if time {
			s.Now++
		}
		if number {
			s.NextRun++
		}
		keyed := endedRun(1)
		keyed.Key, keyed.Plan = "k", line()
		keyed.Nodes = []api.NodeState{{State: api.NodeDead}, {State: api.NodeSkipped}}
		s.Runs = []api.RunState{keyed}
		for i := range 16 {
			id, nodes := 2+i, 64
			if !tasks && i == 15 {
				nodes = 63
			}
			r := api.RunState{ID: id, Plan: until(plain(nodes), 101), Status: api.RunLive, Submitted: 1<<62 - 101}
			for node := range nodes {
				r.Nodes = append(r.Nodes, api.NodeState{State: api.NodeReady})
				s.Ready = append(s.Ready, api.Ref{Run: id, Node: node})
			}
			s.Runs = append(s.Runs, r)
			s.Timers = append(s.Timers, api.Timer{Due: 1 << 62, Kind: api.TimerDeadline, Run: id})
		}
		for id := 18; id <= 255 || id == 256 && runs; id++ {
			s.Runs = append(s.Runs, endedRun(id))
		}
		d := from(t, "P14.2", s)
		one := until(plain(1), 101)
		code := api.OK
		switch {
		case time:
			code = api.ErrEngineTime
		case runs || tasks:
			code = api.ErrEngineFull
		case number:
			code = api.ErrEngineNumber
		}
		if a := d.e.Copy().Do(submit(line(), "k")); !sameAnswer(a, api.Answer{Run: 1, Again: true}) {
			t.Errorf("P14.2: set %d: %+v", set, a)
		}
		d.refuses(api.ErrEngineKey, submit(one, "k"))
		if code != api.OK {
			d.refuses(code, submit(one, ""), submit(one, "new"))
			continue
		}
		if a := d.do(submit(one, "new")); a.Run != 1<<40 || a.Code != api.OK {
			t.Errorf("P14.2: set %d: %+v", set, a)
		}
		d.refuses(api.ErrEngineFull, submit(one, ""))
		d.pass(forget(18))
		d.refuses(api.ErrEngineFull, submit(one, ""))
		d.pass(cancel(17))
		d.refuses(api.ErrEngineNumber, submit(one, ""))
		d.pass(tick(1))
		d.refuses(api.ErrEngineTime, submit(one, ""))
	}
}

// P14.2: the nodes of live runs alone count; ended ones leave room, however they have ended.
func TestTasks(t *testing.T) {
	d := begin(t, "P14.2")
	for range 15 {
		d.pass(submit(plain(64), ""))
	}
	d.pass(submit(plain(61), ""), submit(until(plain(1), 3), ""), submit(with(plain(1), func(n *api.Node) { n.Lane = 1 }), ""))
	d.refuses(api.ErrEngineFull, submit(plain(2), ""), submit(plain(64), ""))
	d.pass(submit(with(plain(1), func(n *api.Node) { n.Lane, n.Budget = 2, 1 }), ""))
	d.refuses(api.ErrEngineFull, submit(plain(1), ""))
	d.pass(poll(1))
	d.refuses(api.ErrEngineFull, submit(plain(1), ""))
	d.pass(complete(1, "")) // it succeeds
	d.refuses(api.ErrEngineFull, submit(plain(2), ""))
	d.pass(poll(2), fail(2)) // it fails
	d.refuses(api.ErrEngineFull, submit(plain(3), ""))
	d.pass(tick(3)) // one expires
	d.refuses(api.ErrEngineFull, submit(plain(4), ""))
	d.pass(cancel(16), submit(plain(63), "")) // that of 61
	d.refuses(api.ErrEngineFull, submit(plain(2), ""))
	d.pass(submit(plain(1), ""))
	d.refuses(api.ErrEngineFull, submit(plain(1), ""))
	c := from(t, "P14.2", d.e.State())
	c.refuses(api.ErrEngineFull, submit(plain(1), ""))
	c.pass(cancel(1), submit(plain(64), ""))
	c.refuses(api.ErrEngineFull, submit(plain(1), ""))
}

// P14.2: ended runs count among those that are kept, till they are forgotten.
func TestRuns(t *testing.T) {
	d := begin(t, "P14.2")
	for i := range 256 {
		d.pass(submit(plain(1), fmt.Sprint(i)))
		if i%3 == 0 {
			d.pass(cancel(i + 1))
		}
	}
	d.refuses(api.ErrEngineFull, submit(plain(1), ""), submit(plain(1), "x"))
	if a := d.do(submit(plain(1), "77")); !sameAnswer(a, api.Answer{Run: 78, Again: true}) {
		t.Errorf("P14.2: %+v", a)
	}
	d.pass(cancel(2))
	d.refuses(api.ErrEngineFull, submit(plain(1), ""))
	d.pass(forget(4), forget(1))
	for id := 257; id <= 258; id++ {
		if a := d.do(submit(plain(1), "")); a.Run != id || a.Code != api.OK {
			t.Errorf("P14.2: %+v", a)
		}
	}
	d.refuses(api.ErrEngineFull, submit(plain(1), ""))
}

// P14.2: the first node of a lane's queue is handed out, with its times, which end with the run's due, and its inputs.
func TestPoll(t *testing.T) {
	p := of(node("a", nil, nil), node("b", nil, nil), node("c", list(0, 1), nil), node("d", nil, list(0)), node("e", nil, nil))
	p.Nodes[0].Close, p.Nodes[0].Beat = 30, 20
	p.Nodes[1].Close, p.Nodes[1].Beat = 95, 99
	p.Nodes[2].Close, p.Nodes[2].Beat = 3, 1000
	p.Nodes[4].Lane, p.Nodes[4].Close, p.Nodes[4].Beat = 15, 1<<40, 1<<40
	d := in(t, "P14.2", tick(5), submit(p, ""), tick(5))
	last := poll(15)
	last.Worker = 1 << 40
	if a := d.notes(last, "10: Leased 1 node 4 attempt 1 token 1 due 105"); fmt.Sprint(a.Task) != "{1 1 4 e 1 105 105 []}" {
		t.Errorf("P14.2: %v", a.Task)
	}
	if r, _ := d.e.Run(1); r.Nodes[4].Worker != 1<<40 || r.Nodes[4].Token != 1 {
		t.Errorf("P14.2: %+v", r.Nodes[4])
	}
	d.task(0, api.Task{Token: 2, Run: 1, Node: 0, Name: "a", Attempt: 1, Until: 40, BeatBy: 30})
	if a := d.notes(poll(0), "10: Leased 1 node 1 attempt 1 token 3 due 105"); fmt.Sprint(a.Task) != "{3 1 1 b 1 105 105 []}" {
		t.Errorf("P14.2: %v", a.Task)
	}
	d.timers(api.Timer{Due: 30, Kind: 3, Run: 1}, api.Timer{Due: 40, Kind: 2, Run: 1}, api.Timer{Due: 105, Kind: 1, Run: 1}, api.Timer{Due: 105, Kind: 2, Run: 1, Node: 4},
		api.Timer{Due: 105, Kind: 3, Run: 1, Node: 4}, api.Timer{Due: 105, Kind: 2, Run: 1, Node: 1}, api.Timer{Due: 105, Kind: 3, Run: 1, Node: 1})
	d.refuses(api.ErrEngineEmpty, poll(0), poll(15), poll(7))
	d.notes(complete(3, "\x00\xff"), "10: Done 1 node 1 attempt 1")
	d.notes(complete(2, "zero"), "10: Done 1 node 0 attempt 1", "10: Ready 1 node 2", "10: Ready 1 node 3")
	d.task(0, api.Task{Token: 4, Run: 1, Node: 2, Name: "c", Attempt: 1, Until: 13, BeatBy: 105, Inputs: [][]byte{[]byte("zero"), {0, 255}}})
	d.task(0, api.Task{Token: 5, Run: 1, Node: 3, Name: "d", Attempt: 1, Until: 20})
}

// P14.2: an empty lane is told ahead of tokens that are used up.
func TestPollErrors(t *testing.T) {
	for _, next := range []int{1, 1 << 40, 1<<40 + 1} {
		s := in(t, "P14.2", submit(with(plain(2), func(n *api.Node) { n.Lane = 3 }), "")).e.State()
		s.NextToken = next
		d := from(t, "P14.2", s)
		d.refuses(api.ErrEngineEmpty, poll(0), poll(2), poll(15))
		if next <= 1<<40 {
			if a := d.do(poll(3)); a.Task.Token != next {
				t.Errorf("P14.2: the token is %d, not %d", a.Task.Token, next)
			}
		}
		if next >= 1<<40 {
			d.refuses(api.ErrEngineNumber, poll(3))
			d.refuses(api.ErrEngineEmpty, poll(4))
		}
		if next == 1<<40 {
			d.pass(complete(1<<40, "x"))
			d.refuses(api.ErrEngineToken, complete(1<<40, "x"))
		}
	}
}

// P14.2: Beat, Complete and Fail of a token that was never given, or whose lease has ended, however.
func TestTokens(t *testing.T) {
	p := with(plain(1), func(n *api.Node) { n.Beat, n.Budget, n.Jitter = 8, 3, 1 })
	ops := []api.Op{beat(1), complete(1, "x"), fail(1)}
	for name, ends := range map[string][]api.Op{
		"done": {complete(1, "")}, "told": {fail(1)}, "beat": {tick(8)}, "closed": {tick(7), beat(1), tick(3)}, "cancelled": {cancel(1)}, "expired": {tick(1000)},
		"forgotten": {cancel(1), forget(1)}, "leased anew": {fail(1), tick(9), poll(0)}, "another run": {cancel(1), submit(p, ""), poll(0)},
	} {
		d := in(t, "P14.2", submit(p, ""))
		d.refuses(api.ErrEngineToken, ops...)
		d.pass(poll(0))
		d.refuses(api.ErrEngineToken, beat(2), complete(3, ""), fail(1<<40))
		for _, o := range ops {
			d.fork().pass(o)
		}
		d.pass(ends...)
		d.promise = "P14.2, " + name
		d.refuses(api.ErrEngineToken, ops...)
	}
}

// P14.2: a sign of life moves the TimerBeat alone, behind all of its time, and not beyond the due.
func TestBeat(t *testing.T) {
	p := until(with(plain(2), func(n *api.Node) { n.Beat, n.Close = 6, 20 }), 15)
	d := in(t, "P14.2", submit(p, ""), poll(0), poll(0))
	d.notes(beat(1), "0: Beaten 1 node 0 attempt 1 token 1 due 6")
	d.timers(api.Timer{Due: 6, Kind: 3, Run: 1, Node: 1}, api.Timer{Due: 6, Kind: 3, Run: 1}, api.Timer{Due: 15, Kind: 1, Run: 1}, api.Timer{Due: 15, Kind: 2, Run: 1}, api.Timer{Due: 15, Kind: 2, Run: 1, Node: 1})
	d.notes(tick(5))
	d.notes(beat(2), "5: Beaten 1 node 1 attempt 1 token 2 due 11")
	d.notes(beat(1), "5: Beaten 1 node 0 attempt 1 token 1 due 11")
	d.notes(tick(5))
	d.notes(beat(1), "10: Beaten 1 node 0 attempt 1 token 1 due 15")
	d.notes(beat(1), "10: Beaten 1 node 0 attempt 1 token 1 due 15")
	d.timers(api.Timer{Due: 11, Kind: 3, Run: 1, Node: 1}, api.Timer{Due: 15, Kind: 1, Run: 1}, api.Timer{Due: 15, Kind: 2, Run: 1}, api.Timer{Due: 15, Kind: 2, Run: 1, Node: 1}, api.Timer{Due: 15, Kind: 3, Run: 1})
	d.notes(tick(1), "11: Failed 1 node 1 attempt 1 why 3", "11: Backoff 1 node 1 attempt 1 due 15")
	d.refuses(api.ErrEngineToken, beat(2))
	d.notes(tick(4), "15: Dead 1 node 0 attempt 1 why 6", "15: Dead 1 node 1 attempt 1 why 6", "15: Ended 1 why 5")
	d = in(t, "P14.2", submit(plain(1), ""), poll(0), tick(4))
	ahead := d.e.State()
	d.notes(beat(1))
	if !sameState(d.e.State(), ahead) {
		t.Error("P14.2: a sign of life that nobody wants has turned something")
	}
	d.notes(tick(6), "10: Failed 1 node 0 attempt 1 why 2", "10: Backoff 1 node 0 attempt 1 due 14")
}

// P14.2: a node that is done has its result, and no timers.
func TestComplete(t *testing.T) {
	p := of(node("a", nil, nil), node("b", list(0), nil), node("c", nil, list(0)), node("d", list(0), list(4)), node("e", nil, nil))
	p.Nodes[0].Beat = 3
	d := in(t, "P14.2", submit(p, ""), poll(0), poll(0), tick(2))
	d.notes(complete(1, strings.Repeat("r", 64)), "2: Done 1 node 0 attempt 1", "2: Ready 1 node 1", "2: Ready 1 node 2")
	d.timers(api.Timer{Due: 10, Kind: 2, Run: 1, Node: 4}, api.Timer{Due: 100, Kind: 1, Run: 1})
	d.nodes(1, 5, 2, 2, 1, 3)
	if r, _ := d.e.Run(1); !sameNode(r.Nodes[0], api.NodeState{State: 5, Attempts: 1, Result: []byte(strings.Repeat("r", 64))}) {
		t.Errorf("P14.2: %+v", r.Nodes[0])
	}
	d.notes(complete(2, ""), "2: Done 1 node 4 attempt 1", "2: Ready 1 node 3")
	d.pass(poll(0), poll(0), poll(0), complete(4, ""), complete(3, "b"))
	d.notes(complete(5, "d"), "2: Done 1 node 3 attempt 1", "2: Ended 1 why 2")
	d.timers()
	if r, _ := d.e.Run(1); r.Status != api.RunSucceeded || r.Ended != 2 {
		t.Errorf("P14.2: %+v", r)
	}
	d.notes(tick(1000))
}

// P14.2: Cancel and Forget, of runs in every status and of none.
func TestCancelAndForget(t *testing.T) {
	for _, id := range []int{1, 7, 8} {
		d := gallery(t, "P14.2")
		d.refuses(api.ErrEngineEnded, forget(id))
		d.pass(cancel(id))
		d.refuses(api.ErrEngineEnded, cancel(id))
		now := d.e.Now()
		if r, _ := d.e.Run(id); r.Status != api.RunCancelled || r.Ended != now {
			t.Errorf("P14.2: %+v", r)
		}
		d.notes(forget(id), fmt.Sprintf("%d: Forgotten %d", now, id))
		d.refuses(api.ErrEngineRun, cancel(id), forget(id))
	}
	d := gallery(t, "P14.2")
	for _, id := range []int{3, 9, 1 << 32, 1 << 40} {
		d.refuses(api.ErrEngineRun, cancel(id), forget(id))
	}
	for _, id := range []int{5, 2, 6, 4} {
		d.refuses(api.ErrEngineEnded, cancel(id))
		d.notes(forget(id), fmt.Sprintf("%d: Forgotten %d", d.e.Now(), id))
		d.refuses(api.ErrEngineRun, cancel(id), forget(id))
	}
}

// P14.2: draws turn the luck, and nothing else; each behind the other.
func TestDraw(t *testing.T) {
	d := gallery(t, "P14.2")
	want := pace.Mix(0, 5)
	for _, luck := range []uint64{0, 1, 1 << 63, math.MaxUint64, 0} {
		ahead := d.e.State()
		d.notes(draw(luck))
		want = pace.Mix(want, luck)
		ahead.Luck = want
		if !sameState(d.e.State(), ahead) {
			t.Errorf("P14.2: behind a draw of %d: %+v; want %+v", luck, d.e.State(), ahead)
		}
	}
	if one := in(t, "P14.2", draw(1)).e.State().Luck; one != 16490336266968443936 {
		t.Errorf("P14.2: Luck is %d", one)
	}
}

// P14.2: a tick ends where it says, and no further than the last time.
func TestTick(t *testing.T) {
	d := begin(t, "P14.2")
	for _, step := range [][2]int{{0, 0}, {1, 1}, {0, 1}, {1 << 61, 1<<61 + 1}, {1 << 61, 1 << 62}, {0, 1 << 62}, {1, 1 << 62}, {1 << 62, 1 << 62}} {
		d.notes(tick(step[0]))
		if d.e.Now() != step[1] {
			t.Errorf("P14.2: behind a tick of %d Now is %d, not %d", step[0], d.e.Now(), step[1])
		}
	}
	for _, now := range []int{0, 1, 1<<62 - 1} {
		d := from(t, "P14.2", api.State{Now: now, NextRun: 1, NextToken: 1})
		d.notes(tick(1 << 62))
		if d.e.Now() != 1<<62 {
			t.Errorf("P14.2: Now is %d", d.e.Now())
		}
	}
}

// P14.3: with attempts left, the backoff grows to its cap, with the luck's jitter; with none left the node is dead.
func TestFails(t *testing.T) {
	p := until(plain(3), 10000)
	p.Nodes[2].Budget, p.Nodes[2].Base, p.Nodes[2].Cap, p.Nodes[2].Jitter, p.Nodes[2].Lane = 5, 3, 13, 100, 1
	d := in(t, "P14.3", submit(plain(1), ""), submit(p, ""), draw(12345))
	luck := pace.Mix(0, 12345)
	for attempt, delay := range map[int]int{1: 3, 2: 6, 3: 12, 4: 13} {
		jitter, _ := pace.Jitter(luck, 2, 2, attempt, 100)
		if wait, _ := pace.Wait(p.Nodes[2], luck, 2, 2, attempt); wait != delay+jitter {
			t.Fatalf("pace.Wait of attempt %d is %d, not %d", attempt, wait, delay+jitter)
		}
	}
	for attempt := 1; attempt <= 4; attempt++ {
		d.task(1, api.Task{Token: attempt, Run: 2, Node: 2, Name: "n2", Attempt: attempt, Until: d.e.Now() + 10})
		wait, _ := pace.Wait(p.Nodes[2], luck, 2, 2, attempt)
		now := d.e.Now()
		d.notes(fail(attempt), fmt.Sprintf("%d: Failed 2 node 2 attempt %d why 1", now, attempt), fmt.Sprintf("%d: Backoff 2 node 2 attempt %d due %d", now, attempt, now+wait))
		if attempt == 1 {
			d.pass(cancel(1))
		}
		d.notes(tick(wait - 1))
		d.refuses(api.ErrEngineEmpty, poll(1))
		d.notes(tick(1), fmt.Sprintf("%d: Ready 2 node 2", now+wait))
	}
	d.pass(poll(1))
	now := d.e.Now()
	d.notes(fail(5), fmt.Sprintf("%d: Failed 2 node 2 attempt 5 why 1", now), fmt.Sprintf("%d: Dead 2 node 2 attempt 5 why 4", now))
	d.nodes(2, 2, 2, 6)
	d.timers(api.Timer{Due: 10000, Kind: 1, Run: 2})
}

// P14.3: each way to fail, with attempts left and with none; the other timers of the lease go with it.
func TestWhys(t *testing.T) {
	p := with(of(node("a", nil, nil), node("b", list(0), nil), node("c", nil, list(0))), func(n *api.Node) { n.Beat = 8 })
	for why, c := range map[int]struct {
		ops []api.Op
		at  int
	}{api.WhyTold: {[]api.Op{tick(4), fail(1)}, 4}, api.WhyClosed: {[]api.Op{tick(7), beat(1), tick(2), tick(1)}, 10}, api.WhyBeat: {[]api.Op{tick(7), tick(1)}, 8}} {
		d := in(t, "P14.3", submit(p, ""), poll(0))
		n := len(c.ops) - 1
		d.pass(c.ops[:n]...)
		d.notes(c.ops[n], fmt.Sprintf("%d: Failed 1 node 0 attempt 1 why %d", c.at, why), fmt.Sprintf("%d: Backoff 1 node 0 attempt 1 due %d", c.at, c.at+4))
		d.timers(api.Timer{Due: c.at + 4, Kind: 4, Run: 1}, api.Timer{Due: 100, Kind: 1, Run: 1})
		one := in(t, "P14.3", submit(with(p, func(n *api.Node) { n.Budget = 1 }), ""), poll(0))
		one.pass(c.ops[:n]...)
		one.notes(c.ops[n], fmt.Sprintf("%d: Failed 1 node 0 attempt 1 why %d", c.at, why), fmt.Sprintf("%d: Dead 1 node 0 attempt 1 why 4", c.at), fmt.Sprintf("%d: Skipped 1 node 1", c.at), fmt.Sprintf("%d: Ready 1 node 2", c.at))
		one.timers(api.Timer{Due: 100, Kind: 1, Run: 1})
	}
}

// P14.3: a backoff ends with the run's due at the latest; there the deadline comes first.
func TestBackoffByTheDue(t *testing.T) {
	for wait, due := range map[int]int{1: 11, 9: 19, 10: 20, 11: 20, 1 << 40: 20} {
		p := until(with(plain(1), func(n *api.Node) { n.Base, n.Cap = wait, wait }), 20)
		d := in(t, "P14.3", submit(p, ""), poll(0))
		d.notes(tick(10), "10: Failed 1 node 0 attempt 1 why 2", fmt.Sprintf("10: Backoff 1 node 0 attempt 1 due %d", due))
		want := []string{"20: Dead 1 node 0 attempt 1 why 6", "20: Ended 1 why 5"}
		if due < 20 {
			want = append([]string{fmt.Sprintf("%d: Ready 1 node 0", due)}, want...)
		}
		d.notes(tick(10), want...)
	}
}

// P14.4: dead, skipped in the order in which they were, ready to the end of their lanes' queues; the run's end.
func TestChange(t *testing.T) {
	p := of(node("a", list(3), nil), node("b", nil, nil), node("c", nil, list(1)), node("d", list(1), nil), node("e", nil, list(1, 3)), node("f", nil, list(0)), node("g", list(0), nil), node("h", nil, nil))
	for i, lane := range []int{0, 2, 1, 0, 0, 1, 0, 0} {
		p.Nodes[i].Lane = lane
	}
	p.Nodes[1].Budget = 1
	other := of(node("x", nil, nil), node("y", nil, nil))
	other.Nodes[1].Lane = 1
	d := in(t, "P14.4", submit(p, ""), submit(other, ""), poll(2))
	d.notes(fail(1), "0: Failed 1 node 1 attempt 1 why 1", "0: Dead 1 node 1 attempt 1 why 4",
		"0: Skipped 1 node 3", "0: Skipped 1 node 0", "0: Skipped 1 node 6", "0: Ready 1 node 2", "0: Ready 1 node 4", "0: Ready 1 node 5")
	d.ready(api.Ref{Run: 1, Node: 7}, api.Ref{Run: 2, Node: 0}, api.Ref{Run: 1, Node: 4}, api.Ref{Run: 2, Node: 1}, api.Ref{Run: 1, Node: 2}, api.Ref{Run: 1, Node: 5})
	d.pass(submit(other, ""), poll(1), poll(1), poll(1), tick(3), complete(3, ""), complete(4, ""), poll(0), poll(0), poll(0), complete(5, ""), beat(6))
	d.notes(complete(7, ""), "3: Done 1 node 4 attempt 1", "3: Ended 1 why 3")
	if r, _ := d.e.Run(1); r.Ended != 3 || r.Status != api.RunFailed {
		t.Errorf("P14.4: %+v", r)
	}
	d.timers(api.Timer{Due: 10, Kind: 2, Run: 2, Node: 1}, api.Timer{Due: 13, Kind: 2, Run: 2}, api.Timer{Due: 100, Kind: 1, Run: 2}, api.Timer{Due: 100, Kind: 1, Run: 3})
}

// P14.4: a run can end with a death by budget too, and its timers go.
func TestEndedByDeath(t *testing.T) {
	p := with(line(), func(n *api.Node) { n.Budget, n.Beat = 1, 10 })
	d := in(t, "P14.4", submit(p, ""), poll(0))
	d.notes(tick(50), "10: Failed 1 node 0 attempt 1 why 2", "10: Dead 1 node 0 attempt 1 why 4", "10: Skipped 1 node 1", "10: Ended 1 why 3")
	d.timers()
	if r, _ := d.e.Run(1); r.Ended != 10 {
		t.Errorf("P14.4: it has ended at %d", r.Ended)
	}
}

// P14.5: what is stopped leaves its queues and takes its timers and tokens with it; nothing of another run is touched.
func TestStop(t *testing.T) {
	for _, c := range []struct {
		o           api.Op
		why, status int
	}{{cancel(1), 5, 4}, {tick(1), 6, 5}} {
		d := gallery(t, "P14.5")
		at := d.e.Now()
		if c.status == api.RunExpired {
			d.pass(tick(99 - at)) // what comes till then comes first
			at = 100
		}
		dead := map[int]int{3: 0, 4: 1, 5: 1, 7: 1, 8: 1}
		var want []string
		for node := range 9 {
			if attempts, is := dead[node]; is {
				want = append(want, fmt.Sprintf("%d: Dead 1 node %d attempt %d why %d", at, node, attempts, c.why))
			}
		}
		want = append(want, fmt.Sprintf("%d: Skipped 1 node 6", at), fmt.Sprintf("%d: Ended 1 why %d", at, c.status))
		a := d.do(c.o)
		if got := texts(a.Notes); strings.Join(got, "; ") != strings.Join(want, "; ") {
			t.Errorf("P14.5: %q; want %q", got, want)
		}
		d.nodes(1, 5, 6, 7, 6, 6, 6, 7, 6, 6)
		d.refuses(api.ErrEngineToken, beat(6), complete(8, ""))
		d.refuses(api.ErrEngineEmpty, poll(2), poll(15))
		for _, x := range d.e.State().Timers {
			if x.Run == 1 {
				t.Errorf("P14.5: %v is there still", x)
			}
		}
		r, _ := d.e.Run(1)
		if r.Status != c.status || r.Ended != at {
			t.Errorf("P14.5: %+v", r)
		}
		d.task(1, api.Task{Token: 9, Run: 7, Name: "a", Attempt: 1, Until: min(d.e.Now()+10, 104)})
		d.task(0, api.Task{Token: 10, Run: 8, Name: "a", Attempt: 1, Until: min(d.e.Now()+10, 104)})
	}
}

// P14.6: each kind of timer comes in the very tick that reaches its time.
func TestTimers(t *testing.T) {
	p := with(plain(1), func(n *api.Node) { n.Beat, n.Close, n.Budget = 7, 9, 3 })
	for _, c := range []struct {
		ops  []api.Op
		due  int
		want []string
	}{
		{nil, 100, []string{"100: Dead 1 node 0 attempt 0 why 6", "100: Ended 1 why 5"}},
		{[]api.Op{poll(0)}, 7, []string{"7: Failed 1 node 0 attempt 1 why 3", "7: Backoff 1 node 0 attempt 1 due 11"}},
		{[]api.Op{poll(0), tick(3), beat(1)}, 9, []string{"9: Failed 1 node 0 attempt 1 why 2", "9: Backoff 1 node 0 attempt 1 due 13"}},
		{[]api.Op{poll(0), tick(1), fail(1)}, 5, []string{"5: Ready 1 node 0"}},
		{[]api.Op{poll(0), fail(1), tick(4), poll(0), fail(2)}, 12, []string{"12: Ready 1 node 0"}},
	} {
		d := in(t, "P14.6", append([]api.Op{submit(p, "")}, c.ops...)...)
		ahead := d.fork()
		d.notes(tick(c.due - d.e.Now() - 1))
		d.notes(tick(1), c.want...)
		d.notes(tick(0))
		ahead.notes(tick(c.due-ahead.e.Now()), c.want...)
	}
}

// P14.6: several of one time come in the order in which they were made, whatever their kinds are.
func TestOneTime(t *testing.T) {
	// Run 1 backs off till 10, run 2 is closed at 10, run 3 has its deadline at 10, run 4 misses a beat at 10.
	backs := with(plain(1), func(n *api.Node) { n.Lane, n.Base, n.Cap = 1, 10, 10 })
	closes := with(plain(1), func(n *api.Node) { n.Lane = 2 })
	beats := with(plain(1), func(n *api.Node) { n.Lane, n.Close, n.Beat = 4, 50, 10 })
	parts := [][]api.Op{{submit(backs, "1"), poll(1)}, {submit(closes, "2"), poll(2)}, {submit(until(plain(1), 10), "3")}, {submit(beats, "4"), poll(4)}}
	notes := [][]string{{"10: Ready %d node 0"}, {"10: Failed %d node 0 attempt 1 why 2", "10: Backoff %d node 0 attempt 1 due 14"}, {"10: Dead %d node 0 attempt 0 why 6", "10: Ended %d why 5"}, {"10: Failed %d node 0 attempt 1 why 3", "10: Backoff %d node 0 attempt 1 due 14"}}
	for code := range 256 {
		order := list(code%4, code/4%4, code/16%4, code/64)
		if seen := 1<<order[0] | 1<<order[1] | 1<<order[2] | 1<<order[3]; seen != 15 {
			continue
		}
		d := begin(t, "P14.6")
		var want []string
		for place, part := range order {
			for _, o := range parts[part] {
				a := d.do(o)
				if part == 0 && o.Kind == api.OpPoll {
					d.pass(fail(a.Task.Token))
				}
			}
			for _, text := range notes[part] {
				want = append(want, fmt.Sprintf(text, place+1))
			}
		}
		c := from(t, "P14.8", d.e.State())
		d.notes(tick(9))
		d.notes(tick(1), want...)
		c.notes(tick(10), want...)
	}
}

// P14.6: what a timer makes in a tick comes in the same tick, if it is due by then, in its place among the others.
func TestTimersOfTimers(t *testing.T) {
	p := with(plain(1), func(n *api.Node) { n.Close, n.Base, n.Cap = 3, 2, 2 })
	late := with(plain(1), func(n *api.Node) { n.Close, n.Budget = 5, 1 })
	d := in(t, "P14.6", submit(p, ""), submit(late, ""), submit(with(p, func(n *api.Node) { n.Close = 4 }), ""), poll(0), poll(0), poll(0))
	d.notes(tick(6), "3: Failed 1 node 0 attempt 1 why 2", "3: Backoff 1 node 0 attempt 1 due 5", "4: Failed 3 node 0 attempt 1 why 2", "4: Backoff 3 node 0 attempt 1 due 6",
		"5: Failed 2 node 0 attempt 1 why 2", "5: Dead 2 node 0 attempt 1 why 4", "5: Ended 2 why 3", "5: Ready 1 node 0", "6: Ready 3 node 0")
	d.ready(api.Ref{Run: 1}, api.Ref{Run: 3})
}

// P14.7: all, in its order; and to ask for it changes nothing.
func TestState(t *testing.T) {
	d := gallery(t, "P14.7")
	now := d.e.Now()
	for range 2 {
		s := d.e.State()
		var ids []int
		for _, r := range s.Runs {
			ids = append(ids, r.ID)
			if one, code := d.e.Run(r.ID); !sameRun(one, r) || code != api.OK {
				t.Errorf("P14.7: run %d is %+v, by Run %+v", r.ID, r, one)
			}
		}
		if fmt.Sprint(ids) != "[1 2 4 5 6 7 8]" || s.Now != now || s.Luck != pace.Mix(0, 5) || s.NextRun != 9 || s.NextToken != 9 {
			t.Errorf("P14.7: runs %v; %d %d %d %d", ids, s.Now, s.Luck, s.NextRun, s.NextToken)
		}
		d.ready(api.Ref{Run: 8}, api.Ref{Run: 7}, api.Ref{Run: 1, Node: 7}, api.Ref{Run: 1, Node: 3})
		back, _ := pace.Wait(s.Runs[0].Plan.Nodes[5], s.Luck, 1, 5, 1)
		want := []api.Timer{{Due: 4 + back, Kind: 4, Run: 1, Node: 5}, {Due: 14, Kind: 2, Run: 1, Node: 4}, {Due: now + 6, Kind: 3, Run: 1, Node: 8}, {Due: now + 10, Kind: 2, Run: 1, Node: 8},
			{Due: 100, Kind: 1, Run: 1}, {Due: 104, Kind: 1, Run: 7}, {Due: 104, Kind: 1, Run: 8}}
		if now != 8 || back != 8 {
			t.Fatalf("it is %d, and the backoff was %d", now, back)
		}
		d.timers(want...)
	}
}

// The clock's end: nothing lives on there, and all is told as ever.
func TestClocksEnd(t *testing.T) {
	for deadline, ok := range map[int]bool{1: true, 49: true, 50: true, 51: false, 100: false, 1 << 40: false} {
		d := from(t, "P14.2", api.State{Now: 1<<62 - 50, NextRun: 1, NextToken: 1})
		if !ok {
			d.refuses(api.ErrEngineTime, submit(until(line(), deadline), ""))
			continue
		}
		due := 1<<62 - 50 + deadline
		d.notes(submit(until(with(line(), func(n *api.Node) { n.Close, n.Beat, n.Base, n.Cap, n.Jitter = 1<<40, 1<<40, 1<<40, 1<<40, 1<<40 }), deadline), ""),
			fmt.Sprintf("%d: Submitted 1 due %d", 1<<62-50, due), fmt.Sprintf("%d: Ready 1 node 0", 1<<62-50))
		d.task(0, api.Task{Token: 1, Run: 1, Name: "a", Attempt: 1, Until: due, BeatBy: due})
		d.notes(beat(1), fmt.Sprintf("%d: Beaten 1 node 0 attempt 1 token 1 due %d", 1<<62-50, due))
		c := d.fork()
		c.notes(fail(1), fmt.Sprintf("%d: Failed 1 node 0 attempt 1 why 1", 1<<62-50), fmt.Sprintf("%d: Backoff 1 node 0 attempt 1 due %d", 1<<62-50, due))
		for _, x := range []*desk{d, c} {
			x.notes(tick(deadline - 1))
			x.notes(tick(1<<62), fmt.Sprintf("%d: Dead 1 node 0 attempt 1 why 6", due), fmt.Sprintf("%d: Skipped 1 node 1", due), fmt.Sprintf("%d: Ended 1 why 5", due))
			x.refuses(api.ErrEngineTime, submit(until(line(), 1), ""))
			x.refuses(api.ErrEngineEmpty, poll(0))
			x.refuses(api.ErrEngineEnded, cancel(1))
			x.notes(tick(1 << 62))
			x.pass(draw(1), forget(1))
		}
	}
}

// The greatest numbers that a plan may have, and the greatest IDs, tokens, workers.
func TestGreatest(t *testing.T) {
	p := until(with(plain(64), func(n *api.Node) {
		n.Name = strings.Repeat("z", 37) + n.Name
		n.Budget, n.Close, n.Beat, n.Base, n.Cap, n.Jitter, n.Lane = 100, 1<<40-1, 1<<40-2, 1, 1<<40, 1<<40, 15
	}), 1<<40)
	p.Nodes[0].Budget = 1
	for i := range p.Nodes {
		for j := max(0, i-4); j < i && i < 60; j++ {
			lay(p, i, j, j%2 == 1)
		}
	}
	mayBe(t, p)
	d := from(t, "P14.2", api.State{Now: 1<<62 - 1<<40, NextRun: 1 << 40, NextToken: 1<<40 - 1, Luck: math.MaxUint64})
	if a := d.do(submit(p, strings.Repeat("\xff", 40))); a.Run != 1<<40 {
		t.Errorf("P14.2: %+v", a)
	}
	d.refuses(api.ErrEngineNumber, submit(plain(1), ""))
	o := poll(15)
	o.Worker = 1 << 40
	d.pass(o)
	d.pass(o)
	d.refuses(api.ErrEngineNumber, o)
	d.pass(fail(1 << 40))
	r, _ := d.e.Run(1 << 40)
	var node int
	for i, n := range r.Nodes {
		if n.State == api.NodeBackoff {
			node = i
		}
	}
	wait, _ := pace.Wait(p.Nodes[node], math.MaxUint64, 1<<40, node, 1)
	if due, _ := d.e.Due(); node != 60 || due != min(1<<62, 1<<62-1<<40+wait) {
		t.Errorf("P14.3: node %d backs off till %d", node, due)
	}
	from(t, "P14.10", d.e.State()).pass(beat(1<<40-1), tick(1<<40), forget(1<<40))
	d.pass(complete(1<<40-1, strings.Repeat("\x00", 64)), tick(1<<39), tick(1<<62))
	if r, _ := d.e.Run(1 << 40); r.Status != api.RunExpired || r.Ended != 1<<62 {
		t.Errorf("P14.2: %d at %d", r.Status, r.Ended)
	}
}
