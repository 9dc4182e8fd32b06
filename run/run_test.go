package run

import (
	"bytes"
	"fmt"
	"math"
	"slices"
	"strings"
	"testing"

	"escapement/api"
)

// The chapter's examples, row by row, and promise by promise what is wanted, by hand.

func list(nodes ...int) []int { return nodes }

func on(nodes ...int) outcome {
	return outcome{change: api.Change{Ready: nodes, Status: api.RunLive}}
}

func ended(status int) outcome { return outcome{change: api.Change{Status: status}} }

func refused(code api.Errno) outcome { return outcome{code: code} }

func attempt(n int) outcome { return outcome{attempt: n} }

func wantsReady(t *testing.T, p api.Plan, want ...int) *desk {
	t.Helper()
	d, c := begin(t, "P13.1", p)
	if !slices.Equal(c.Ready, want) || len(c.Dead) > 0 || len(c.Skipped) > 0 || c.Status != api.RunLive || d.r.Status() != api.RunLive {
		t.Errorf("P13.1: New(%s): %v, not ready %v", told(p), c, want)
	}
	return d
}

func (d *desk) node(i, state, attempts int) {
	d.t.Helper()
	if s, n, code := d.r.Node(i); s != state || n != attempts || code != api.OK {
		d.t.Errorf("P13.2: %v, Node(%d): %d, %d, %d; want %d, %d", d.calls, i, s, n, code, state, attempts)
	}
}

func (d *desk) inputs(i int, code api.Errno, want ...string) {
	d.t.Helper()
	rows, e := d.r.Inputs(i)
	same := slices.EqualFunc(rows, want, func(row []byte, text string) bool { return string(row) == text })
	if !same || e != code {
		d.t.Errorf("P13.2: %v, Inputs(%d): %q, %d; want %q, %d", d.calls, i, rows, e, want, code)
	}
}

func (d *desk) result(i int, code api.Errno, want string) {
	d.t.Helper()
	if b, e := d.r.Result(i); string(b) != want || e != code {
		d.t.Errorf("P13.2: %v, Result(%d): %q, %d; want %q, %d", d.calls, i, b, e, want, code)
	}
}

func TestExampleLine(t *testing.T) {
	d := wantsReady(t, line(), 0)
	d.node(1, api.NodeWaiting, 0)
	d.inputs(1, api.ErrRunState)
	d.inputs(0, api.OK)
	d.inputs(2, api.ErrRunNode)
	d.gives("Lease 0", attempt(1))
	d.gives("Lease 0", refused(api.ErrRunState))
	d.gives("Lease 1", refused(api.ErrRunState))
	d.gives("Lease -1", refused(api.ErrRunNode))
	d.gives("Finish 0 "+strings.Repeat("r", 65), refused(api.ErrArg))
	d.gives("Finish 0 x", on(1))
	d.gives("Finish 0 x", refused(api.ErrRunState))
	d.inputs(1, api.OK, "x")
	d.result(0, api.OK, "x")
	d.result(1, api.OK, "")
	d.gives("Lease 1", attempt(1))
	d.gives("Finish 1 y", ended(api.RunSucceeded))
}

func TestExampleDead(t *testing.T) {
	d := wantsReady(t, of(node("a", nil, nil), node("b", list(0), nil), node("c", nil, list(0)), node("d", list(1), nil)), 0)
	d.gives("Lease 0", attempt(1))
	d.gives("Miss 0", on())
	d.gives("Lease 0", refused(api.ErrRunState))
	d.gives("Wake 0", on(0))
	d.gives("Wake 0", refused(api.ErrRunState))
	d.gives("Lease 0", attempt(2))
	d.gives("Miss 0", outcome{change: api.Change{Dead: list(0), Skipped: list(1, 3), Ready: list(2), Status: api.RunLive}})
	d.gives("Lease 2", attempt(1))
	d.gives("Finish 2", ended(api.RunFailed))
}

func TestExampleBudgetOne(t *testing.T) {
	d := wantsReady(t, budgets(of(node("a", nil, nil), node("b", nil, nil), node("c", list(0, 1), nil)), 1, 1, 1), 0, 1)
	d.gives("Lease 0", attempt(1))
	d.gives("Miss 0", outcome{change: api.Change{Dead: list(0), Skipped: list(2), Status: api.RunLive}})
	d.gives("Lease 1", attempt(1))
	d.gives("Finish 1 z", ended(api.RunFailed))
}

func TestExampleStop(t *testing.T) {
	d := wantsReady(t, line(), 0)
	d.gives("Lease 0", attempt(1))
	d.gives("Stop 3", refused(api.ErrArg))
	d.gives("Stop 5", outcome{change: api.Change{Dead: list(0), Skipped: list(1), Status: api.RunExpired}})
	d.gives("Stop 5", refused(api.ErrRunState))
	d.gives("Lease 0", refused(api.ErrRunState))
}

// at is how a node stands that has no result; so is whose it is.
func at(state, attempts int) api.NodeState { return api.NodeState{State: state, Attempts: attempts} }

func so(attempts int, result string) api.NodeState {
	return api.NodeState{State: done, Attempts: attempts, Result: []byte(result)}
}

func states(nodes ...api.NodeState) []api.NodeState { return nodes }

func TestExampleFrom(t *testing.T) {
	for _, c := range []struct {
		status int
		nodes  []api.NodeState
		want   api.Errno
	}{
		{api.RunLive, states(so(1, "x"), at(waiting, 0)), api.ErrRunState},
		{api.RunLive, states(so(1, "x"), at(ready, 0)), api.OK},
		{api.RunFailed, states(at(dead, 2), at(skipped, 0)), api.OK},
		{api.RunFailed, states(at(dead, 1), at(skipped, 0)), api.ErrRunState},
		{api.RunCancelled, states(at(dead, 0), at(skipped, 0)), api.OK},
		{api.RunCancelled, states(so(1, ""), so(1, "")), api.ErrRunState},
	} {
		wantsFrom(t, "P13.9", line(), c.status, c.nodes, c.want)
	}
	r := wantsFrom(t, "P13.9", line(), api.RunLive, states(so(1, "x"), at(ready, 0)), api.OK)
	if rows, code := r.Inputs(1); len(rows) != 1 || string(rows[0]) != "x" || code != api.OK {
		t.Errorf("P13.9: Inputs(1): %q, %d", rows, code)
	}
}

// P13.1: what is ready at once: all without edges, and these alone.
func TestNew(t *testing.T) {
	wantsReady(t, plain(1), 0)
	wantsReady(t, plain(3), 0, 1, 2)
	wantsReady(t, of(node("a", list(1), nil), node("b", nil, list(2)), node("c", nil, nil)), 2)
	wantsReady(t, of(node("a", nil, nil), node("b", list(0), nil), node("c", nil, nil), node("d", nil, list(0, 2))), 0, 2)
	all := make([]int, 64)
	for i := range all {
		all[i] = i
	}
	wantsReady(t, plain(64), all...)
	great := plain(64)
	for i := range great.Nodes {
		for j := max(0, i-4); j < i && edgesOf(great) < 256; j++ {
			lay(great, i, j, i%2 == 0)
		}
	}
	for j := range 64 {
		if edgesOf(great) < 256 {
			lay(great, 63, j, false)
		}
	}
	if edgesOf(great) != 256 {
		t.Fatalf("%d edges", edgesOf(great))
	}
	d := wantsReady(t, great, 0)
	for i := range all {
		d.node(i, map[bool]int{true: api.NodeReady, false: api.NodeWaiting}[i == 0], 0)
	}
}

// faults are plans that may not be, with the error of each.
func faults() map[api.Errno]api.Plan {
	name, deadline, twice, field, edge, cycle := line(), line(), line(), line(), line(), line()
	name.Name = "P"
	deadline.Deadline = 0
	twice.Nodes[1].Name = "a"
	field.Nodes[1].Budget = 0
	edge.Nodes[1].Needs = list(2)
	cycle.Nodes[0].After = list(1)
	return map[api.Errno]api.Plan{100: name, 101: deadline, 102: of(), 103: twice, 104: field, 105: edge, 106: cycle}
}

// P13.1, P13.9: of a plan that may not be there is no run, whatever else is wrong; of two faults Check's first is told.
func TestBadPlans(t *testing.T) {
	wantsNone := func(p api.Plan, want api.Errno) {
		t.Helper()
		r, c, code := New(p)
		if r != nil || (outcome{change: c}).String() != (outcome{}).String() || code != want {
			t.Errorf("P13.1: New(%s): %v, %v, %d; want %d", told(p), r, c, code, want)
		}
		for _, status := range []int{0, live, succeeded, failed, cancelled, expired, 6} {
			wantsFrom(t, "P13.9", p, status, nil, want)
			wantsFrom(t, "P13.9", p, status, states(so(1, ""), so(1, "")), want)
			wantsFrom(t, "P13.9", p, status, states(at(9, -1)), want)
		}
	}
	for code, p := range faults() {
		wantsNone(p, code)
		p.Deadline = 1 << 41
		wantsNone(p, min(code, api.ErrPlanDeadline))
	}
	wantsNone(api.Plan{}, api.ErrPlanName)
	wantsNone(plain(65), api.ErrPlanSize)
	wantsNone(budgets(plain(2), 2, 101), api.ErrPlanField)
}

// gallery has a live run with nodes in every state; which ones, its lists tell.
func gallery(t *testing.T, promise string) (*desk, map[int][]int) {
	t.Helper()
	p := of(node("done", nil, nil), node("dead", nil, nil), node("skipped", list(1), nil), node("ready", list(0), nil), node("leased", nil, nil), node("backoff", nil, list(1)),
		node("waiting", list(0, 3), nil), node("again", nil, nil), node("behind", nil, list(4)), node("last", list(0), list(2)), node("further", list(2), list(4)))
	d := in(t, promise, budgets(p, 1, 1, 3, 2, 2, 2, 2, 2, 2, 1, 2),
		"Lease 0, Finish 0 zero, Lease 1, Miss 1, Lease 4, Lease 5, Miss 5, Lease 7, Miss 7, Wake 7, Lease 9")
	return d, map[int][]int{done: {0}, dead: {1}, skipped: {2, 10}, ready: {3, 7}, leased: {4, 9}, backoff: {5}, waiting: {6, 8}}
}

// P13.2: all that can be asked, in every state of a node.
func TestViews(t *testing.T) {
	d, by := gallery(t, "P13.2")
	tries := []int{1, 1, 0, 0, 1, 1, 0, 1, 0, 1, 0}
	for state, nodes := range by {
		for _, i := range nodes {
			d.node(i, state, tries[i])
			d.result(i, api.OK, map[bool]string{true: "zero"}[i == 0])
		}
	}
	for _, i := range []int{0, 1, 2, 5, 6, 8, 10} {
		d.inputs(i, api.ErrRunState)
	}
	for _, i := range []int{4, 7} {
		d.inputs(i, api.OK)
	}
	d.inputs(3, api.OK, "zero")
	d.inputs(9, api.OK, "zero")
	d.do(call{"Stop", cancelled, ""})
	for i := range tries {
		d.inputs(i, api.ErrRunState)
		d.result(i, api.OK, map[bool]string{true: "zero"}[i == 0])
	}
}

// P13.2: inputs stand in Needs' order, whatever the order in which they came; those of After are not among them; one without bytes is one too.
func TestInputs(t *testing.T) {
	p := of(node("a", nil, nil), node("b", list(0, 2, 3), list(4)), node("c", nil, nil), node("d", nil, nil), node("e", nil, nil))
	d := in(t, "P13.2", p, "Lease 3, Lease 2, Lease 0, Lease 4, Finish 3 three, Finish 4 four, Finish 2")
	d.inputs(1, api.ErrRunState)
	d.gives("Finish 0 \x00\xff", on(1))
	d.inputs(1, api.OK, "\x00\xff", "", "three")
	d.gives("Lease 1", attempt(1))
	d.inputs(1, api.OK, "\x00\xff", "", "three")
	d.gives("Miss 1", on())
	d.inputs(1, api.ErrRunState)
	d.gives("Wake 1", on(1))
	d.inputs(1, api.OK, "\x00\xff", "", "three")
	d.gives("Lease 1", attempt(2))
	d.gives("Finish 1 one", ended(api.RunSucceeded))
	d.inputs(1, api.ErrRunState)
	d.result(1, api.OK, "one")
}

// noNode asks each call with a number that is no node's.
func (d *desk) noNode() {
	d.t.Helper()
	for _, i := range strange(len(d.m.p.Nodes)) {
		if s, n, code := d.r.Node(i); s != 0 || n != 0 || code != api.ErrRunNode {
			d.t.Errorf("P13.2: Node(%d): %d, %d, %d", i, s, n, code)
		}
		if b, code := d.r.Result(i); b != nil || code != api.ErrRunNode {
			d.t.Errorf("P13.2: Result(%d): %v, %d", i, b, code)
		}
		if rows, code := d.r.Inputs(i); rows != nil || code != api.ErrRunNode {
			d.t.Errorf("P13.2: Inputs(%d): %v, %d", i, rows, code)
		}
		for _, text := range []string{"Lease %d", "Finish %d x", "Finish %d " + strings.Repeat("r", 65), "Miss %d", "Wake %d"} {
			d.gives(fmt.Sprintf(text, i), refused(api.ErrRunNode))
		}
	}
}

// P13.2: ErrRunNode comes ahead of all else, in a run that is live and in such as have ended.
func TestNoNode(t *testing.T) {
	d, _ := gallery(t, "P13.2")
	d.noNode()
	d.do(call{"Stop", expired, ""})
	d.noNode()
	in(t, "P13.2", plain(1), "Lease 0, Finish 0").noNode()
	in(t, "P13.2", budgets(plain(1), 1), "Lease 0, Miss 0").noNode()
	in(t, "P13.2", plain(63), "Stop 4").noNode()
}

// P13.3 to P13.6: each step, of a node in each state; those that are refused change nothing.
func TestStates(t *testing.T) {
	takes := map[string]int{"Lease": ready, "Finish": leased, "Miss": leased, "Wake": backoff}
	for name, wanted := range takes {
		_, by := gallery(t, "P13.3")
		for state, nodes := range by {
			for _, i := range nodes {
				d, _ := gallery(t, "P13.3 to P13.6")
				ahead := viewOf(t, d.r)
				o := d.do(call{name, i, ""})
				if want := map[bool]api.Errno{false: api.ErrRunState}[state == wanted]; o.code != want {
					t.Errorf("P13.3 to P13.6: %s of a node in state %d: %v", name, state, o)
				}
				if same := viewOf(t, d.r) == ahead; same != (o.code != api.OK) {
					t.Errorf("R3: %s of a node in state %d: %v, changed: %v", name, state, o, !same)
				}
			}
		}
	}
}

// P13.3: the answer is how many attempts the node has then, up to its Budget.
func TestLease(t *testing.T) {
	for _, budget := range []int{1, 2, 3, 100} {
		d, _ := begin(t, "P13.3", budgets(line(), budget, 1))
		for k := 1; k <= budget; k++ {
			d.node(0, api.NodeReady, k-1)
			d.gives("Lease 0", attempt(k))
			d.node(0, api.NodeLeased, k)
			d.gives("Lease 0", refused(api.ErrRunState))
			if k < budget {
				d.gives("Miss 0", on())
				d.node(0, api.NodeBackoff, k)
				d.gives("Wake 0", on(0))
			}
		}
		d.gives("Miss 0", outcome{change: api.Change{Dead: list(0), Skipped: list(1), Status: api.RunFailed}})
		d.node(0, api.NodeDead, budget)
		d.node(1, api.NodeSkipped, 0)
	}
}

// P13.4: results of up to 64 bytes; ErrArg comes ahead of ErrRunState.
func TestFinish(t *testing.T) {
	long := func(n int) string { return strings.Repeat("r", n) }
	for _, n := range []int{0, 1, 63, 64} {
		d := in(t, "P13.4", line(), "Lease 0")
		d.gives("Finish 0 "+long(n), on(1))
		d.node(0, api.NodeDone, 1)
		d.result(0, api.OK, long(n))
		d.inputs(1, api.OK, long(n))
	}
	for _, n := range []int{65, 66, 128, 256, 257, 1 << 16, 1<<16 + 1} {
		d, by := gallery(t, "P13.4")
		for _, nodes := range by {
			for _, i := range nodes {
				d.gives(fmt.Sprint("Finish ", i, " ", long(n)), refused(api.ErrArg))
			}
		}
		d.do(call{"Stop", cancelled, ""})
		d.gives("Finish 0 "+long(n), refused(api.ErrArg))
	}
	d := in(t, "P13.4", line(), "Lease 0")
	if c, code := d.r.Finish(0, nil); !slices.Equal(c.Ready, list(1)) || code != api.OK {
		t.Errorf("P13.4: Finish without a result: %v, %d", c, code)
	}
}

// P13.4: an end lets all begin that waited for it alone; what waits for another one too goes on waiting; an attempt that was not the first is as good.
func TestFinishReady(t *testing.T) {
	p := of(node("a", nil, nil), node("b", list(0), nil), node("c", nil, list(0)), node("d", list(0), list(5)), node("e", list(0, 1), nil), node("f", nil, nil), node("g", list(5), list(0)))
	d := in(t, "P13.4", p, "Lease 0, Miss 0, Wake 0, Lease 0")
	d.gives("Finish 0 x", on(1, 2))
	d.node(0, api.NodeDone, 2)
	d.gives("Lease 5", attempt(1))
	d.gives("Finish 5 y", on(3, 6))
	for _, i := range []string{"1", "2", "3", "6"} {
		d.gives("Lease "+i, attempt(1))
	}
	d.gives("Finish 6", on())
	d.gives("Finish 3", on())
	d.gives("Finish 2", on())
	d.gives("Finish 1", on(4))
	d.gives("Lease 4", attempt(1))
	d.gives("Finish 4", ended(api.RunSucceeded))
}

// P13.5: who is skipped, and in which order: the least first of those that are to be skipped then.
func TestMissSkips(t *testing.T) {
	for _, c := range []struct {
		p    api.Plan
		want api.Change
	}{
		{of(node("a", nil, nil), node("b", list(3), nil), node("c", list(1), nil), node("d", list(0), nil)), api.Change{Skipped: list(3, 1, 2), Status: api.RunFailed}},
		{of(node("a", nil, nil), node("b", list(2), nil), node("c", list(3), nil), node("d", list(4), nil), node("e", list(0), nil)), api.Change{Skipped: list(4, 3, 2, 1), Status: api.RunFailed}},
		{of(node("a", nil, nil), node("b", list(5), nil), node("c", list(0), nil), node("d", list(2), nil), node("e", list(0), nil), node("f", list(3), nil)), api.Change{Skipped: list(2, 3, 4, 5, 1), Status: api.RunFailed}},
		{of(node("a", nil, nil), node("b", list(0, 2), nil), node("c", nil, nil)), api.Change{Skipped: list(1), Status: api.RunLive}},
		{of(node("a", nil, nil), node("b", nil, list(2)), node("c", list(0), nil)), api.Change{Skipped: list(2), Ready: list(1), Status: api.RunLive}},
		{of(node("a", nil, nil), node("b", nil, list(0)), node("c", nil, list(0)), node("d", list(2), nil)), api.Change{Ready: list(1, 2), Status: api.RunLive}},
		{of(node("a", nil, nil), node("b", nil, list(0, 2)), node("c", nil, nil)), api.Change{Status: api.RunLive}},
		{of(node("a", nil, nil), node("b", list(2), list(0)), node("c", nil, nil), node("d", list(0), list(2))), api.Change{Skipped: list(3), Status: api.RunLive}},
		{of(node("a", nil, nil)), api.Change{Status: api.RunFailed}},
	} {
		c.want.Dead = list(0)
		d := in(t, "P13.5", budgets(c.p, 1), "Lease 0")
		d.gives("Miss 0", outcome{change: c.want})
		d.node(0, api.NodeDead, 1)
	}
}

// P13.5: with attempts left nothing else stirs.
func TestMissBackoff(t *testing.T) {
	p := budgets(of(node("a", nil, nil), node("b", list(0), nil), node("c", nil, list(0)), node("d", nil, nil)), 3)
	d := in(t, "P13.5", p, "Lease 0")
	for k := 1; k < 3; k++ {
		d.gives("Miss 0", on())
		d.node(0, api.NodeBackoff, k)
		d.node(1, api.NodeWaiting, 0)
		d.node(2, api.NodeWaiting, 0)
		d.gives("Miss 0", refused(api.ErrRunState))
		d.gives("Finish 0", refused(api.ErrRunState))
		d.gives("Wake 0", on(0))
		d.gives("Lease 0", attempt(k+1))
	}
	d.gives("Miss 0", outcome{change: api.Change{Dead: list(0), Skipped: list(1), Ready: list(2), Status: api.RunLive}})
}

// P13.6: a wake tells the node that is ready again, and nothing else.
func TestWake(t *testing.T) {
	d := in(t, "P13.6", of(node("a", nil, nil), node("b", nil, nil), node("c", list(0, 1), nil)), "Lease 1, Miss 1, Lease 0, Miss 0")
	d.gives("Wake 2", refused(api.ErrRunState))
	d.gives("Wake 1", on(1))
	d.node(1, api.NodeReady, 1)
	d.gives("Wake 0", on(0))
	d.gives("Wake 0", refused(api.ErrRunState))
	d.gives("Lease 0", attempt(2))
	d.gives("Wake 0", refused(api.ErrRunState))
}

// P13.7: with each status, in a run that is live: what is dead, what is skipped, what stays.
func TestStop(t *testing.T) {
	for _, status := range []int{cancelled, expired} {
		d, _ := gallery(t, "P13.7")
		d.gives(fmt.Sprint("Stop ", status), outcome{change: api.Change{Dead: list(3, 4, 5, 7, 9), Skipped: list(6, 8), Status: status}})
		if d.r.Status() != status {
			t.Errorf("P13.7: Status is %d", d.r.Status())
		}
		for i, want := range [][2]int{{done, 1}, {dead, 1}, {skipped, 0}, {dead, 0}, {dead, 1}, {dead, 1}, {skipped, 0}, {dead, 1}, {skipped, 0}, {dead, 1}, {skipped, 0}} {
			d.node(i, want[0], want[1])
		}
	}
}

// P13.7: a status that may not be is ErrArg in each state of the run; one that may be is ErrRunState, if it has ended.
func TestStopRefused(t *testing.T) {
	p := budgets(line(), 1, 1)
	for _, c := range []struct {
		calls  string
		status int
	}{
		{"", live}, {"Lease 0", live}, {"Lease 0, Finish 0, Lease 1, Finish 1", succeeded}, {"Lease 0, Miss 0", failed}, {"Stop 4", cancelled}, {"Lease 0, Finish 0, Stop 5", expired},
	} {
		d := in(t, "P13.7", p, c.calls)
		if d.r.Status() != c.status {
			t.Errorf("P13.7: behind %q the status is %d", c.calls, d.r.Status())
		}
		for _, status := range []int{0, live, succeeded, failed, 6, 7, -1, -4, 1<<32 + 4, math.MaxInt, math.MinInt} {
			d.gives(fmt.Sprint("Stop ", status), refused(api.ErrArg))
		}
		if c.status != live {
			d.gives("Stop 4", refused(api.ErrRunState))
			d.gives("Stop 5", refused(api.ErrRunState))
			for _, text := range []string{"Lease 0", "Lease 1", "Finish 0", "Finish 1", "Miss 0", "Miss 1", "Wake 0", "Wake 1"} {
				d.gives(text, refused(api.ErrRunState))
			}
		}
	}
}

// P13.8: a copy stands as the run; neither turns with the other.
func TestCopy(t *testing.T) {
	d, _ := gallery(t, "P13.8")
	other := &desk{t, d.r.Copy(), d.m.clone(), "P13.8", nil}
	other.stands()
	stood := viewOf(t, d.r)
	for _, text := range []string{"Lease 3", "Finish 4 four", "Wake 5", "Miss 9", "Finish 3 three", "Lease 7", "Miss 7"} {
		d.do(read(text))
		other.stands()
		if got := viewOf(t, other.r); got != stood {
			t.Fatalf("P13.8: behind %v the copy stands so: %s", d.calls, got)
		}
	}
	stood = viewOf(t, d.r)
	other.do(read("Finish 4 other"))
	other.do(read("Stop 4"))
	d.stands()
	if got := viewOf(t, d.r); got != stood {
		t.Fatalf("P13.8: behind %v of the copy the run stands so: %s", other.calls, got)
	}
	for _, calls := range []string{"", "Stop 5", "Lease 0, Finish 0 x, Lease 1, Finish 1 y"} {
		d := in(t, "P13.8", line(), calls)
		(&desk{t, d.r.Copy(), d.m, "P13.8", nil}).stands()
		(&desk{t, d.r.Copy().Copy(), d.m, "P13.8", nil}).stands()
	}
}

// breaks is a case that breaks one condition of P13.9 alone.
type breaks struct {
	what   string
	p      api.Plan
	status int
	nodes  []api.NodeState
}

func allBreaks() []breaks {
	two := line()
	loose := plain(2)
	after := of(node("a", nil, nil), node("b", nil, list(0)))
	long := strings.Repeat("r", 65)
	with := func(n api.NodeState, result string) api.NodeState {
		n.Result = []byte(result)
		return n
	}
	return []breaks{
		{"as many nodes", two, live, states(at(ready, 0))},
		{"as many nodes", two, live, states(at(ready, 0), at(waiting, 0), at(waiting, 0))},
		{"as many nodes", two, succeeded, states(so(1, ""), so(1, ""), so(1, ""))},
		{"as many nodes", two, succeeded, states(so(1, ""))},
		{"as many nodes", two, live, nil},
		{"a state", loose, live, states(at(ready, 0), at(0, 0))},
		{"a state", loose, live, states(at(ready, 0), at(8, 0))},
		{"a state", loose, live, states(at(-1, 1), at(ready, 0))},
		{"a state", loose, live, states(at(1<<32+ready, 0), at(ready, 0))},
		{"result: at most 64", two, live, states(so(1, long), at(ready, 0))},
		{"result: at most 64", two, succeeded, states(so(1, ""), so(2, long))},
		{"result: at most 64", two, cancelled, states(so(1, long), at(dead, 0))},
		{"result: only if done", two, live, states(with(at(ready, 0), "x"), at(waiting, 0))},
		{"result: only if done", two, live, states(with(at(leased, 1), "x"), at(waiting, 0))},
		{"result: only if done", two, live, states(with(at(backoff, 1), "\x00"), at(waiting, 0))},
		{"result: only if done", two, live, states(at(ready, 0), with(at(waiting, 0), "x"))},
		{"result: only if done", two, failed, states(with(at(dead, 2), "x"), at(skipped, 0))},
		{"result: only if done", two, failed, states(at(dead, 2), with(at(skipped, 0), "x"))},
		{"result: only if done", two, expired, states(with(at(dead, 0), "x"), at(skipped, 0))},
		{"attempts: least in state 1", two, live, states(at(ready, 0), at(waiting, -1))},
		{"attempts: most in state 1", two, live, states(at(ready, 0), at(waiting, 1))},
		{"attempts: least in state 7", two, failed, states(at(dead, 2), at(skipped, -1))},
		{"attempts: most in state 7", two, failed, states(at(dead, 2), at(skipped, 1))},
		{"attempts: most in state 7", two, cancelled, states(at(dead, 2), at(skipped, 1))},
		{"attempts: least in state 2", two, live, states(at(ready, -1), at(waiting, 0))},
		{"attempts: most in state 2", two, live, states(at(ready, 2), at(waiting, 0))},
		{"attempts: most in state 2", budgets(two, 1), live, states(at(ready, 1), at(waiting, 0))},
		{"attempts: least in state 4", two, live, states(at(backoff, 0), at(waiting, 0))},
		{"attempts: most in state 4", two, live, states(at(backoff, 2), at(waiting, 0))},
		{"attempts: most in state 4", budgets(two, 1), live, states(at(backoff, 1), at(waiting, 0))},
		{"attempts: least in state 3", two, live, states(at(leased, 0), at(waiting, 0))},
		{"attempts: most in state 3", two, live, states(at(leased, 3), at(waiting, 0))},
		{"attempts: least in state 5", two, live, states(so(0, "x"), at(ready, 0))},
		{"attempts: most in state 5", two, live, states(so(3, "x"), at(ready, 0))},
		{"attempts: most in state 5", two, succeeded, states(so(1, "x"), so(math.MaxInt, ""))},
		{"attempts: least in state 5", two, expired, states(so(0, "x"), at(skipped, 0))},
		{"attempts: least in state 6", two, failed, states(at(dead, 1), at(skipped, 0))},
		{"attempts: most in state 6", two, failed, states(at(dead, 3), at(skipped, 0))},
		{"attempts: least in state 6", loose, live, states(at(dead, 1), at(ready, 0))},
		{"attempts: most in state 6", loose, live, states(at(dead, 3), at(ready, 0))},
		{"attempts: least in state 6", two, cancelled, states(at(dead, -1), at(skipped, 0))},
		{"attempts: most in state 6", two, cancelled, states(at(dead, 3), at(skipped, 0))},
		{"attempts: least in state 6", two, expired, states(at(dead, math.MinInt), at(skipped, 0))},
		{"attempts: most in state 6", two, expired, states(at(dead, 3), at(skipped, 0))},
		{"live: not all settled", two, live, states(so(1, ""), so(1, ""))},
		{"live: not all settled", two, live, states(so(1, ""), at(dead, 2))},
		{"live: not all settled", two, live, states(at(dead, 2), at(skipped, 0))},
		{"live: what is to be skipped is", two, live, states(at(dead, 2), at(waiting, 0))},
		{"live: what is to be skipped is", two, live, states(at(dead, 2), at(ready, 0))},
		{"live: what is to be skipped is", two, live, states(at(dead, 2), at(leased, 1))},
		{"live: what is to be skipped is", two, live, states(at(dead, 2), at(backoff, 1))},
		{"live: no other one is skipped", loose, live, states(at(skipped, 0), at(ready, 0))},
		{"live: no other one is skipped", two, live, states(at(ready, 0), at(skipped, 0))},
		{"live: what may begin does not wait", two, live, states(so(1, ""), at(waiting, 0))},
		{"live: what may begin does not wait", two, live, states(at(waiting, 0), at(waiting, 0))},
		{"live: what may begin does not wait", after, live, states(at(dead, 2), at(waiting, 0))},
		{"live: what may not begin waits", two, live, states(at(ready, 0), at(ready, 0))},
		{"live: what may not begin waits", two, live, states(at(leased, 1), at(leased, 1))},
		{"live: what may not begin waits", two, live, states(at(backoff, 1), so(1, ""))},
		{"live: what may not begin waits", two, live, states(at(ready, 0), at(dead, 2))},
		{"live: what may not begin waits", after, live, states(at(ready, 1), at(backoff, 1))},
		{"live: what may not begin waits", after, live, states(at(ready, 1), so(1, ""))},
		{"succeeded: all done", two, succeeded, states(so(1, ""), at(ready, 0))},
		{"succeeded: all done", two, succeeded, states(so(1, ""), at(dead, 2))},
		{"succeeded: all done", two, succeeded, states(at(dead, 2), at(skipped, 0))},
		{"succeeded: all done", two, succeeded, states(so(1, ""), at(skipped, 0))},
		{"succeeded: all done", two, succeeded, states(so(1, ""), at(waiting, 0))},
		{"failed: all settled", loose, failed, states(at(dead, 2), at(ready, 0))},
		{"failed: all settled", loose, failed, states(so(1, ""), at(leased, 1))},
		{"failed: all settled", loose, failed, states(at(dead, 2), at(backoff, 1))},
		{"failed: all settled", loose, failed, states(at(dead, 2), at(waiting, 0))},
		{"failed: not all done", two, failed, states(so(1, ""), so(2, ""))},
		{"failed: what is to be skipped is", two, failed, states(at(dead, 2), at(dead, 2))},
		{"failed: what is to be skipped is", two, failed, states(at(dead, 2), so(1, ""))},
		{"failed: no other one is skipped", two, failed, states(so(1, ""), at(skipped, 0))},
		{"failed: no other one is skipped", after, failed, states(at(dead, 2), at(skipped, 0))},
		{"stopped: all settled", two, cancelled, states(so(1, ""), at(ready, 0))},
		{"stopped: all settled", two, expired, states(at(dead, 1), at(waiting, 0))},
		{"stopped: all settled", two, cancelled, states(at(leased, 1), at(skipped, 0))},
		{"stopped: all settled", two, expired, states(at(backoff, 1), at(skipped, 0))},
		{"stopped: not all done", two, cancelled, states(so(1, ""), so(1, ""))},
		{"stopped: not all done", two, expired, states(so(1, "x"), so(2, "y"))},
		{"a status", two, 0, states(so(1, ""), so(1, ""))},
		{"a status", two, 6, states(at(dead, 2), at(skipped, 0))},
		{"a status", two, -1, states(at(ready, 0), at(waiting, 0))},
		{"a status", two, 1<<32 + 1, states(at(ready, 0), at(waiting, 0))},
	}
}

// P13.9: each condition broken alone: the model names that one only (of some nodes more than once), and there is no run.
func TestFromBroken(t *testing.T) {
	named := map[string]int{}
	for _, c := range allBreaks() {
		if got := slices.Compact(broken(c.p, c.status, c.nodes)); !slices.Equal(got, []string{c.what}) {
			t.Errorf("%s: of %s, %d, %v the model says %q", c.what, told(c.p), c.status, c.nodes, got)
		}
		named[c.what]++
		wantsFrom(t, "P13.9", c.p, c.status, c.nodes, api.ErrRunState)
	}
	if len(named) != 31 {
		t.Errorf("P13.9: %d conditions were broken: %v", len(named), named)
	}
}

// P13.9: what may be, at the edges of its conditions.
func TestFromTaken(t *testing.T) {
	two, loose := line(), plain(2)
	most := string(bytes.Repeat([]byte{0xff}, 64))
	for _, c := range []struct {
		p      api.Plan
		status int
		nodes  []api.NodeState
	}{
		{two, live, states(at(ready, 0), at(waiting, 0))},
		{two, live, states(at(ready, 1), at(waiting, 0))},
		{two, live, states(at(leased, 1), at(waiting, 0))},
		{two, live, states(at(leased, 2), at(waiting, 0))},
		{two, live, states(at(backoff, 1), at(waiting, 0))},
		{two, live, states(so(2, most), at(backoff, 1))},
		{budgets(two, 100, 1), live, states(at(backoff, 99), at(waiting, 0))},
		{budgets(two, 100, 1), live, states(so(100, ""), at(leased, 1))},
		{loose, live, states(at(dead, 2), at(ready, 0))},
		{loose, live, states(so(1, "x"), at(leased, 2))},
		{two, succeeded, states(so(1, most), so(2, most))},
		{two, failed, states(so(1, most), at(dead, 2))},
		{two, failed, states(at(dead, 2), at(skipped, 0))},
		{two, cancelled, states(so(2, most), at(dead, 0))},
		{two, cancelled, states(at(dead, 2), at(skipped, 0))},
		{two, expired, states(at(dead, 0), at(skipped, 0))},
		{two, expired, states(at(dead, 1), at(skipped, 0))},
		// of a run that was stopped only what the list says is asked for: not what is to be skipped
		{two, expired, states(at(dead, 1), at(dead, 1))},
		{two, cancelled, states(at(skipped, 0), so(1, ""))},
		{two, cancelled, states(at(skipped, 0), at(skipped, 0))},
	} {
		if got := broken(c.p, c.status, c.nodes); len(got) > 0 {
			t.Errorf("of %s, %d, %v the model says %q", told(c.p), c.status, c.nodes, got)
		}
		wantsFrom(t, "P13.9", c.p, c.status, c.nodes, api.OK)
	}
}

// P13.9: Token and Worker are not looked at.
func TestFromElse(t *testing.T) {
	for _, number := range []int{0, -1, 1 << 41, math.MaxInt, math.MinInt} {
		nodes := states(at(leased, 1), at(waiting, 0))
		for i := range nodes {
			nodes[i].Token, nodes[i].Worker = number, number
		}
		wantsFrom(t, "P13.9", line(), live, nodes, api.OK)
	}
}

// P13.9: what it takes goes on.
func TestFromGoesOn(t *testing.T) {
	p := budgets(of(node("a", nil, nil), node("b", list(0), nil), node("c", nil, list(0))), 3)
	r := wantsFrom(t, "P13.9", p, live, states(at(backoff, 2), at(waiting, 0), at(waiting, 0)), api.OK)
	m := &model{p, live, list(backoff, waiting, waiting), list(2, 0, 0), make([]string, 3)}
	d := &desk{t, r, m, "P13.9", nil}
	d.gives("Wake 0", on(0))
	d.gives("Lease 0", attempt(3))
	d.gives("Miss 0", outcome{change: api.Change{Dead: list(0), Skipped: list(1), Ready: list(2), Status: api.RunLive}})
	d.gives("Stop 5", outcome{change: api.Change{Dead: list(2), Status: api.RunExpired}})
	d.noNode()
}
