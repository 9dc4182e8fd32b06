package run

import (
	"bytes"
	"fmt"
	"math/rand"
	"slices"
	"strings"
	"sync"
	"testing"
	"unsafe"

	"escapement/api"
	"escapement/plan"
)

// What follows, P13.10; all that small plans can come to; whose the memory is; chance.

// anyCall is one of some node, more often one that its state lets pass; seldom one with a number that is no node's, a result that is too long, or a stop.
func anyCall(r *rand.Rand, m *model) call {
	i := r.Intn(len(m.state))
	names := []string{"Lease", "Finish", "Miss", "Wake"}
	name := names[r.Intn(4)]
	switch m.state[i] {
	case ready:
		name = "Lease"
	case leased:
		name = names[1+r.Intn(2)]
	case backoff:
		name = "Wake"
	}
	c := call{name, i, strings.Repeat("r", r.Intn(5)) + fmt.Sprint(i)}
	switch r.Intn(40) {
	case 0:
		c.name = names[r.Intn(4)]
	case 1:
		c.number = strange(len(m.state))[r.Intn(14)]
	case 2:
		c.result = strings.Repeat("l", 60+r.Intn(10))
	case 3:
		if r.Intn(10) == 0 {
			c = call{"Stop", r.Intn(7), ""}
		}
	}
	return c
}

// holds asks of a step what P13.10 says: who was handed out, and when; what a death lets follow.
func holds(t *testing.T, ahead, m *model, c call, o outcome) {
	t.Helper()
	p, i := m.p, c.number
	if o.code != api.OK {
		return
	}
	if c.name == "Lease" {
		for _, on := range p.Nodes[i].Needs {
			if ahead.state[on] != done {
				t.Fatalf("P13.10: %s: %d was handed out, but %d, which it needs, is not done: %s", told(p), i, on, ahead.view())
			}
		}
		for _, on := range p.Nodes[i].After {
			if !isSettled(ahead.state[on]) {
				t.Fatalf("P13.10: %s: %d was handed out, but %d, behind which it stands, is not settled: %s", told(p), i, on, ahead.view())
			}
		}
		if o.attempt > p.Nodes[i].Budget {
			t.Fatalf("P13.10: %s: %d was handed out %d times", told(p), i, o.attempt)
		}
	}
	if c.name == "Miss" && len(o.change.Dead) > 0 {
		below, _ := plan.Below(p, i)
		for _, from := range below {
			if m.state[from] != skipped {
				t.Fatalf("P13.10: %s: %d is dead, but %d, which needs it, is not skipped: %s", told(p), i, from, m.view())
			}
		}
		for _, from := range o.change.Skipped {
			if !slices.Contains(below, from) {
				t.Fatalf("P13.5: %s: %d is dead, and %d, which does not need it, was skipped", told(p), i, from)
			}
		}
	}
	if all := !slices.ContainsFunc(m.state, func(s int) bool { return s != done }); all != (m.status == succeeded) {
		t.Fatalf("P13.10: %s: the status is %d: %s", told(p), m.status, m.view())
	}
}

// P13.1 to P13.10: calls by chance, beside the model; ever again the run is taken anew by From, or is a copy, and goes on.
func TestCourses(t *testing.T) {
	t.Parallel()
	r := chance(1)
	ends := map[int]int{}
	for range 600 {
		p := someOf(r)
		d, _ := begin(t, "P13.1 to P13.7", p)
		twin := d.r
		leases := 0
		for range 12 * len(p.Nodes) {
			if d.m.status != live && r.Intn(8) > 0 {
				break
			}
			ahead := d.m.clone()
			c := anyCall(r, d.m)
			o := d.do(c)
			holds(t, ahead, d.m, c, o)
			if twin != d.r {
				if got := ask(twin, c); got.String() != o.String() || viewOf(t, twin) != d.m.view() {
					t.Fatalf("P13.8, P13.10: %s, %v: the twin answers %v; want %v", told(p), d.calls, got, o)
				}
			}
			if c.name == "Lease" && o.code == api.OK {
				leases++
			}
			switch r.Intn(12) {
			case 0:
				twin = d.r.Copy()
			case 1:
				twin = wantsFrom(t, "P13.10", p, d.m.status, d.m.states(), api.OK)
			}
		}
		most := 0
		for _, n := range p.Nodes {
			most += n.Budget
		}
		if leases > most {
			t.Fatalf("P13.10: %s: %d leases", told(p), leases)
		}
		ends[d.m.status]++
	}
	for status := live; status <= expired; status++ {
		if ends[status] < 10 {
			t.Errorf("too few ways: %v", ends)
		}
	}
}

// reach goes through all that a run of the plan can come to by steps and stops, and asks of each what must hold; it tells how many there are.
func reach(t *testing.T, p api.Plan) int {
	t.Helper()
	type both struct {
		r *Run
		m *model
	}
	d, _ := begin(t, "P13.1", p)
	seen := map[string]bool{d.m.view(): true}
	for todo := []both{{d.r, d.m}}; len(todo) > 0; todo = todo[1:] {
		here := todo[0]
		wantsFrom(t, "P13.10", p, here.m.status, here.m.states(), api.OK)
		calls := []call{{"Stop", cancelled, ""}, {"Stop", expired, ""}}
		for i := range p.Nodes {
			calls = append(calls, call{"Lease", i, ""}, call{"Finish", i, fmt.Sprint("r", i)}, call{"Miss", i, ""}, call{"Wake", i, ""})
		}
		for _, c := range calls {
			next := &desk{t, here.r.Copy(), here.m.clone(), "P13.3 to P13.8", nil}
			o := next.do(c)
			holds(t, here.m, next.m, c, o)
			if view := next.m.view(); !seen[view] {
				seen[view] = true
				todo = append(todo, both{next.r, next.m})
			}
		}
		if viewOf(t, here.r) != here.m.view() {
			t.Fatalf("P13.8: %s: a run turned with its copies: %s; want %s", told(p), viewOf(t, here.r), here.m.view())
		}
	}
	return len(seen)
}

// P13.3 to P13.10: all plans of three nodes, and all that they can come to.
func TestAllOfThree(t *testing.T) {
	t.Parallel()
	plans, stands := 0, 0
	allOfThree(func(p api.Plan) {
		plans++
		stands += reach(t, budgets(p, 1+plans%2, 1, 1+plans/2%2))
	})
	if plans != 109 || stands < 5000 {
		t.Errorf("%d plans came to %d", plans, stands)
	}
}

// enumerate goes through all rows of so many nodes that each stand in one of these ways.
func enumerate(nodes int, ways []api.NodeState, visit func(row []api.NodeState)) {
	row := make([]api.NodeState, nodes)
	var more func(at int)
	more = func(at int) {
		if at == nodes {
			visit(row)
			return
		}
		for _, w := range ways {
			row[at] = w
			more(at + 1)
		}
	}
	more(0)
}

// P13.9: plans of two nodes, in all states, with all numbers of attempts about their bounds, with a result and without one, with each status.
func TestFromAllOfTwo(t *testing.T) {
	t.Parallel()
	var ways []api.NodeState
	for state := range 9 {
		for tries := -1; tries < 4; tries++ {
			ways = append(ways, at(state, tries))
		}
		ways = append(ways, api.NodeState{State: state, Attempts: 1, Result: []byte("x")})
	}
	for _, p := range []api.Plan{line(), plain(2), of(node("a", nil, list(1)), node("b", nil, nil)), budgets(line(), 1, 3)} {
		taken := 0
		enumerate(2, ways, func(row []api.NodeState) {
			for status := range 7 {
				want := api.OK
				if len(broken(p, status, row)) > 0 {
					want = api.ErrRunState
				} else {
					taken++
				}
				if r, code := From(p, status, row); code != want || (r != nil) != (want == api.OK) {
					t.Fatalf("P13.9: From(%s, %d, %v): %d; want %d (%q)", told(p), status, row, code, want, broken(p, status, row))
				}
			}
		})
		if taken < 40 {
			t.Errorf("P13.9: of %s only %d were taken", told(p), taken)
		}
	}
}

// P13.9: all plans of three nodes, in all states, with as many attempts as each may have, with each status.
func TestFromAllOfThree(t *testing.T) {
	t.Parallel()
	ways := states(at(waiting, 0), at(ready, 0), at(leased, 1), at(backoff, 1), so(1, ""), at(dead, 2), at(skipped, 0))
	allOfThree(func(p api.Plan) {
		enumerate(3, ways, func(row []api.NodeState) {
			for status := live; status <= expired; status++ {
				want := api.OK
				if len(broken(p, status, row)) > 0 {
					want = api.ErrRunState
				}
				if r, code := From(p, status, row); code != want || (r != nil) != (want == api.OK) {
					t.Fatalf("P13.9: From(%s, %d, %v): %d; want %d (%q)", told(p), status, row, code, want, broken(p, status, row))
				}
			}
		})
	})
}

// P13.9: what was reached, with one thing turned, beside the model; what is taken goes on as the model does.
func TestFromTurned(t *testing.T) {
	t.Parallel()
	r := chance(2)
	taken, turned := 0, 0
	for range 6000 {
		p := anyPlan(r, 1+r.Intn(8), r.Intn(12))
		m, _ := newModel(p)
		for range r.Intn(6 * len(p.Nodes)) {
			m.do(anyCall(r, m))
		}
		nodes, status := m.states(), m.status
		n := &nodes[r.Intn(len(nodes))]
		switch r.Intn(5) {
		case 0:
			n.State = r.Intn(9)
		case 1:
			n.Attempts += r.Intn(5) - 2
		case 2:
			n.Result = make([]byte, r.Intn(70))
		case 3:
			status = r.Intn(7)
		case 4:
			n.State, n.Attempts, n.Result = 1+r.Intn(7), r.Intn(3), nil
		}
		turned++
		want := api.OK
		if len(broken(p, status, nodes)) > 0 {
			want = api.ErrRunState
		}
		run := wantsFrom(t, "P13.9", p, status, nodes, want)
		if run == nil {
			continue
		}
		taken++
		m = &model{p: p, status: status}
		for _, n := range nodes {
			m.state, m.attempts, m.result = append(m.state, n.State), append(m.attempts, n.Attempts), append(m.result, string(n.Result))
		}
		d := &desk{t, run, m, "P13.9", nil}
		for range 6 * len(p.Nodes) {
			d.do(anyCall(r, d.m))
		}
	}
	if taken < 500 || turned-taken < 1500 {
		t.Errorf("of %d %d were taken", turned, taken)
	}
}

// course lets a run end by itself, in an order that chance makes: each node misses so many attempts, and then has a result of its own. It tells how many leases there were.
func course(t *testing.T, r *rand.Rand, p api.Plan, misses []int) (*Run, int) {
	t.Helper()
	run, c, _ := New(p)
	var open []int // whoever is ready, leased or in backoff
	open = append(open, c.Ready...)
	leases := 0
	for run.Status() == api.RunLive {
		if len(open) == 0 {
			t.Fatalf("P13.10: %s is live, and nothing can be done: %s", told(p), viewOf(t, run))
		}
		i := open[r.Intn(len(open))]
		state, tries, _ := run.Node(i)
		var o outcome
		switch {
		case state == ready:
			leases++
			o = ask(run, call{"Lease", i, ""})
		case state == leased && tries <= misses[i]:
			o = ask(run, call{"Miss", i, ""})
		case state == leased:
			o = ask(run, call{"Finish", i, fmt.Sprint("result ", i)})
		default:
			o = ask(run, call{"Wake", i, ""})
		}
		if o.code != api.OK {
			t.Fatalf("P13.10: %s: of %d in state %d: %v", told(p), i, state, o)
		}
		for _, also := range o.change.Ready {
			if !slices.Contains(open, also) {
				open = append(open, also)
			}
		}
		open = slices.DeleteFunc(open, func(i int) bool {
			s, _, _ := run.Node(i)
			return isSettled(s)
		})
	}
	return run, leases
}

// wantedEnd is how nodes end that miss so many attempts each, told down the plan's order.
func wantedEnd(p api.Plan, misses []int) *model {
	m := &model{p, succeeded, make([]int, len(p.Nodes)), make([]int, len(p.Nodes)), make([]string, len(p.Nodes))}
	order, _ := plan.Order(p)
	for _, i := range order {
		switch {
		case isToBeSkipped(p, m.state, i):
			m.state[i] = skipped
		case misses[i] >= p.Nodes[i].Budget:
			m.state[i], m.attempts[i] = dead, p.Nodes[i].Budget
		default:
			m.state[i], m.attempts[i], m.result[i] = done, misses[i]+1, fmt.Sprint("result ", i)
		}
		if m.state[i] != done {
			m.status = failed
		}
	}
	return m
}

// P13.10: a run ends by itself behind at most as many leases as its Budgets are together; in which order makes no difference.
func TestOrderOfEnds(t *testing.T) {
	t.Parallel()
	r := chance(3)
	ends := map[int]int{}
	for range 600 {
		p := someOf(r)
		misses, most := make([]int, len(p.Nodes)), 0
		for i, n := range p.Nodes {
			most += n.Budget
			if misses[i] = r.Intn(n.Budget); r.Intn(2*len(p.Nodes)) == 0 {
				misses[i] = n.Budget
			}
		}
		want := wantedEnd(p, misses)
		ends[want.status]++
		for range 4 {
			run, leases := course(t, r, p, misses)
			if got := viewOf(t, run); got != want.view() {
				t.Fatalf("P13.10: %s with misses %v ends so: %s; want %s", told(p), misses, got, want.view())
			}
			if leases > most {
				t.Fatalf("P13.10: %s with misses %v had %d leases", told(p), misses, leases)
			}
		}
	}
	if ends[succeeded] < 100 || ends[failed] < 100 {
		t.Errorf("too few ways: %v", ends)
	}
}

// P13.10: as many leases as the Budgets are together, and no more, if all but the last attempt of each node is missed, or the last too.
func TestMostLeases(t *testing.T) {
	p := budgets(plain(3), 1, 2, 100)
	lay(p, 2, 0, true)
	lay(p, 2, 1, true)
	for _, misses := range [][]int{{0, 1, 99}, {1, 2, 100}, {1, 2, 99}} {
		if run, leases := course(t, chance(4), p, misses); leases != 103 {
			t.Errorf("P13.10: misses %v: %d leases; %s", misses, leases, viewOf(t, run))
		}
	}
}

// roomy has lists with spare room, which is filled.
func roomy(p api.Plan) api.Plan {
	more := func(list []int) []int {
		return append(append(make([]int, 0, len(list)+3), list...), 9, 9, 9)[:len(list)]
	}
	p = copyOf(p)
	for i := range p.Nodes {
		p.Nodes[i].Needs, p.Nodes[i].After = more(p.Nodes[i].Needs), more(p.Nodes[i].After)
		p.Nodes[i].Name = strings.Clone(p.Nodes[i].Name)
	}
	p.Nodes = append(p.Nodes, api.Node{Name: "room", Needs: []int{9}})[:len(p.Nodes)]
	return p
}

// whole tells all of a plan, its lists' spare room too.
func whole(p api.Plan) string {
	text := fmt.Sprint(p.Name, p.Deadline)
	for _, n := range p.Nodes[:cap(p.Nodes)] {
		text += fmt.Sprintf("; %v %v %v", n, n.Needs[:cap(n.Needs)], n.After[:cap(n.After)])
	}
	return text
}

// spoil turns all of a plan, its lists' spare room too.
func spoil(p api.Plan) {
	for i := range p.Nodes[:cap(p.Nodes)] {
		n := &p.Nodes[:cap(p.Nodes)][i]
		for _, list := range [][]int{n.Needs[:cap(n.Needs)], n.After[:cap(n.After)]} {
			for k := range list {
				list[k] = 63
			}
		}
		*n = api.Node{Name: "spoiled", Budget: 99}
	}
}

func spoilRow(rows ...[]byte) {
	for _, row := range rows {
		for k := range row[:cap(row)] {
			row[:cap(row)][k] = '#'
		}
	}
}

func spoilList(lists ...[]int) {
	for _, list := range lists {
		for k := range list[:cap(list)] {
			list[:cap(list)][k] = 77
		}
	}
}

func rowOf(text string) []byte {
	return append(append(make([]byte, 0, 70), text...), "room"...)[:len(text)]
}

func wantsRoom(t *testing.T, what string, row []byte, text string) {
	t.Helper()
	if got := string(row[:len(text)+4]); got != text+"room" || len(row) != len(text) {
		t.Errorf("R4: %s changed what was handed in: %q", what, got)
	}
}

// R4: a plan that is handed in is neither changed nor kept.
func TestPlanHandedIn(t *testing.T) {
	p := roomy(budgets(of(node("a", nil, nil), node("b", list(0), nil), node("c", nil, list(0, 1)), node("d", list(1), nil)), 1))
	known, want := copyOf(p), whole(p)
	r, _, _ := New(p)
	from, code := From(p, live, states(at(ready, 0), at(waiting, 0), at(waiting, 0), at(waiting, 0)))
	if code != api.OK {
		t.Fatal(code)
	}
	m, _ := newModel(known)
	other := m.clone()
	d, e := &desk{t, r, m, "R4", nil}, &desk{t, from, other, "R4", nil}
	for _, x := range []*desk{d, e} {
		x.do(read("Lease 0"))
		x.r.Copy().Miss(0)
		x.r.Plan()
	}
	if got := whole(p); got != want {
		t.Errorf("R4: the plan was changed: %s; was %s", got, want)
	}
	spoil(p)
	for _, x := range []*desk{d, e} {
		x.stands()
		x.do(read("Miss 0"))
		x.do(read("Lease 2"))
		x.do(read("Finish 2"))
	}
}

// R4: results that are handed in are neither changed nor kept.
func TestResultHandedIn(t *testing.T) {
	p := of(node("a", nil, nil), node("b", list(0), nil), node("c", list(0, 1), nil))
	d := in(t, "R4", p, "Lease 0")
	x, y := rowOf("x"), rowOf("")
	if c, code := d.r.Finish(0, x); !slices.Equal(c.Ready, list(1)) || code != api.OK {
		t.Fatalf("%v, %d", c, code)
	}
	d.m.do(read("Finish 0 x"))
	d.do(read("Lease 1"))
	if c, code := d.r.Finish(1, y); !slices.Equal(c.Ready, list(2)) || code != api.OK {
		t.Fatalf("%v, %d", c, code)
	}
	d.m.do(read("Finish 1"))
	wantsRoom(t, "Finish", x, "x")
	wantsRoom(t, "Finish", y, "")
	spoilRow(x, y)
	d.stands()
	x, y = rowOf("x"), rowOf("")
	nodes := append(states(so(1, "x"), so(1, ""), at(ready, 0)), at(9, 9))[:3]
	nodes[0].Result, nodes[1].Result = x, y
	r, code := From(p, live, nodes)
	if code != api.OK || fmt.Sprint(nodes[:4]) != fmt.Sprint(states(so(1, "x"), so(1, ""), at(ready, 0), at(9, 9))) {
		t.Fatalf("R4: From: %v, %d", nodes[:4], code)
	}
	wantsRoom(t, "From", x, "x")
	wantsRoom(t, "From", y, "")
	spoilRow(x, y)
	nodes[0].State, nodes[2].State = dead, dead
	(&desk{t, r, d.m, "R4", nil}).stands()
}

// R4: what is answered is new memory: it can be turned, its spare room too, and nothing follows.
func TestAnswersAreNew(t *testing.T) {
	p := roomy(of(node("a", nil, nil), node("b", nil, nil), node("c", list(0, 1), nil), node("d", list(0), list(1))))
	d := in(t, "R4", p, "Lease 0, Lease 1, Finish 0 zero, Finish 1")
	for range 2 {
		spoil(d.r.Plan())
		d.stands()
		zero, _ := d.r.Result(0)
		one, _ := d.r.Result(1)
		rows, _ := d.r.Inputs(2)
		spoilRow(rows[0])
		if len(rows[1]) != 0 || string(zero) != "zero" {
			t.Errorf("R4: rows share memory: %q, %q", rows, zero)
		}
		spoilRow(rows[1], zero, one)
		rows[0], rows[1] = nil, nil
		d.stands()
	}
	both, _ := d.r.Inputs(2)
	grown := append(both[0], "more"...)
	if string(both[1]) != "" || string(grown) != "zeromore" {
		t.Errorf("R4: inputs lie in one another: %q", both)
	}
	c := d.r.Copy()
	spoil(c.Plan())
	d.stands()
}

// R4: the lists of a change are new, and share nothing with one another.
func TestChangesAreNew(t *testing.T) {
	p := budgets(of(node("a", nil, nil), node("b", list(0), nil), node("c", nil, list(0)), node("d", list(1), nil), node("e", nil, list(1)), node("f", nil, nil)), 1)
	r, c, _ := New(p)
	m, _ := newModel(p)
	d := &desk{t, r, m, "R4", nil}
	spoilList(c.Dead, c.Skipped, c.Ready)
	d.stands()
	d.do(read("Lease 0"))
	c, _ = r.Miss(0)
	d.m.do(read("Miss 0"))
	spoilList(c.Dead)
	wantsLists(t, c, list(77), list(1, 3), list(2, 4))
	spoilList(c.Skipped)
	wantsLists(t, c, list(77), list(77, 77), list(2, 4))
	spoilList(c.Ready)
	wantsLists(t, c, list(77), list(77, 77), list(77, 77))
	d.stands()
	d.do(read("Lease 5"))
	d.do(read("Miss 5"))
	c, _ = r.Wake(5)
	d.m.do(read("Wake 5"))
	spoilList(c.Dead, c.Skipped, c.Ready)
	d.stands()
	c, _ = r.Stop(cancelled)
	d.m.do(read("Stop 4"))
	spoilList(c.Dead)
	wantsLists(t, c, list(77, 77, 77), nil, nil)
	spoilList(c.Skipped, c.Ready)
	d.stands()
}

func wantsLists(t *testing.T, c api.Change, dead, skipped, ready []int) {
	t.Helper()
	if !slices.Equal(c.Dead, dead) || !slices.Equal(c.Skipped, skipped) || !slices.Equal(c.Ready, ready) {
		t.Errorf("R4: the lists of a change: %v; want %v, %v, %v", c, dead, skipped, ready)
	}
}

// R4: names are new memory too, handed in and handed out.
func TestNamesAreNew(t *testing.T) {
	p := roomy(line())
	p.Name = strings.Clone("plan")
	r, _, _ := New(p)
	from, _ := From(p, live, states(at(ready, 0), at(waiting, 0)))
	plans := []api.Plan{p, r.Plan(), r.Plan(), r.Copy().Plan(), from.Plan(), r.plan, r.Copy().plan, from.plan}
	seen := map[*byte]int{}
	for i, x := range plans {
		for _, name := range []string{x.Name, x.Nodes[0].Name, x.Nodes[1].Name} {
			at := unsafe.StringData(name)
			if seen[at] > 0 {
				t.Errorf("R4: the plan %d shares a name with another", i)
			}
			seen[at]++
		}
	}
}

// R4: nil and empty lists, bytes and texts are one.
func TestNilAndEmpty(t *testing.T) {
	nothing := of(node("a", []int{}, []int{}), node("b", list(0), []int{}))
	for _, p := range []api.Plan{nothing, line()} {
		for _, result := range [][]byte{nil, {}} {
			d := in(t, "R4", p, "Lease 0")
			if c, code := d.r.Finish(0, result); !slices.Equal(c.Ready, list(1)) || code != api.OK {
				t.Errorf("R4: Finish: %v, %d", c, code)
			}
			d.m.do(read("Finish 0"))
			d.stands()
			nodes := states(at(ready, 0), at(waiting, 0))
			nodes[0].Result, nodes[1].Result = result, result
			wantsFrom(t, "R4", p, live, nodes, api.OK)
		}
	}
	wantsFrom(t, "R4", line(), live, []api.NodeState{}, api.ErrRunState)
}

// R5: runs that are asked side by side have nothing to do with one another.
func TestSideBySide(t *testing.T) {
	p := anyPlan(chance(5), 20, 40)
	first, _, _ := New(p)
	ends := make([]string, 8)
	var all sync.WaitGroup
	for i := range ends {
		r := first.Copy()
		if i%2 == 0 {
			r, _, _ = New(p)
		}
		all.Go(func() {
			for pass := 0; r.Status() == api.RunLive && pass < 1000; pass++ {
				for n := range p.Nodes {
					r.Inputs(n)
					r.Wake(n)
					r.Lease(n)
					if pass%3 == 0 {
						r.Miss(n)
					}
					r.Finish(n, []byte{byte(n)})
				}
				r.Plan()
			}
			ends[i] = viewOf(t, r)
		})
	}
	all.Wait()
	for _, end := range ends {
		if end != ends[0] || first.Status() != api.RunLive {
			t.Errorf("R5: runs of one plan end so: %s; and so: %s", ends[0], end)
		}
	}
}

// R1: From ends and does not panic, whatever it is given.
func TestFromAnything(t *testing.T) {
	t.Parallel()
	r := chance(6)
	taken := 0
	for range 40000 {
		p := anyPlan(r, 1+r.Intn(4), r.Intn(6))
		nodes := make([]api.NodeState, len(p.Nodes))
		for i := range nodes {
			nodes[i] = api.NodeState{State: r.Intn(9), Attempts: r.Intn(5) - 1, Token: r.Int(), Worker: -r.Int()}
			if r.Intn(8) == 0 {
				nodes[i].Result = bytes.Repeat([]byte{7}, r.Intn(70))
			}
			if r.Intn(30) == 0 {
				nodes[i].State, nodes[i].Attempts = strange(8)[r.Intn(14)], strange(2)[r.Intn(14)]
			}
		}
		status := r.Intn(7)
		if r.Intn(30) == 0 {
			status = strange(6)[r.Intn(14)]
		}
		if r.Intn(30) == 0 {
			nodes = nodes[1:]
		}
		want := api.OK
		if len(broken(p, status, nodes)) > 0 {
			want = api.ErrRunState
		} else {
			taken++
		}
		wantsFrom(t, "P13.9", p, status, nodes, want)
	}
	if taken < 200 {
		t.Errorf("only %d were taken", taken)
	}
}

// FuzzRun makes a plan and calls of bytes, and asks the run and the model.
func FuzzRun(f *testing.F) {
	f.Add([]byte{3, 1, 0, 5, 9, 0, 1, 2, 3, 4, 5, 6, 7})
	f.Add([]byte("some words of no meaning, long enough to end a run or two"))
	f.Fuzz(func(t *testing.T, b []byte) {
		if len(b) < 1 || len(b) > 300 {
			return
		}
		next := func() int {
			if len(b) == 0 {
				return 0
			}
			x := b[0]
			b = b[1:]
			return int(x)
		}
		p := plain(1 + next()%7)
		for i := range p.Nodes {
			p.Nodes[i].Budget = 1 + next()%3
			for edges := next(); edges > 0 && i > 0; edges /= 4 {
				lay(p, i, edges%i, edges&1 == 0)
			}
		}
		d, _ := begin(t, "P13.1 to P13.7", p)
		names := []string{"Lease", "Finish", "Miss", "Wake", "Lease", "Finish", "Miss", "Wake", "Stop"}
		for len(b) > 0 {
			x := next()
			d.do(call{names[x%9], x/9 - 1, strings.Repeat("r", x%80)})
		}
		wantsFrom(t, "P13.10", p, d.m.status, d.m.states(), api.OK)
	})
}
