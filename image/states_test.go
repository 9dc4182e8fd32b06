package image

import (
	"bytes"
	"fmt"
	"math"
	"math/rand"
	"slices"
	"strings"
	"testing"

	"escapement/api"
	"escapement/engine"
)

// States, such as may be and such as may not, and engines by chance.

func chance(seed int64) *rand.Rand { return rand.New(rand.NewSource(seed)) }

// told is a text of anything; nil and empty lists are told alike.
func told(x any) string { return fmt.Sprintf("%+v", x) }

func nodeOf(name string, needs ...int) api.Node {
	return api.Node{Name: name, Budget: 2, Close: 15, Base: 3, Cap: 10, Jitter: 5, Needs: needs}
}

func planOf(deadline int, nodes ...api.Node) api.Plan {
	return api.Plan{Name: "p", Deadline: deadline, Nodes: nodes}
}

// fresh is what a new engine has.
func fresh() api.State { return api.State{NextRun: 1, NextToken: 1} }

// mixed has a run of each status and nodes of each state. The ended runs were submitted at 5 and due at 17, the live ones are due at 60 and 50; it is 20.
func mixed() api.State {
	s := api.State{Now: 20, Luck: 0x0102030405060708, NextRun: 9, NextToken: 7}
	settled := [][]api.NodeState{{{State: 5, Attempts: 1, Result: []byte("xyz")}, {State: 5, Attempts: 2}}, {{State: 6, Attempts: 2}, {State: 7}}, {{State: 5, Attempts: 2, Result: []byte{0}}, {State: 6}}, {{State: 6, Attempts: 1}, {State: 7}}}
	for i, nodes := range settled {
		s.Runs = append(s.Runs, api.RunState{ID: []int{1, 2, 3, 5}[i], Key: []string{"s", "f", "", ""}[i], Plan: planOf(12, nodeOf("a"), nodeOf("b", 0)), Status: 2 + i, Submitted: 5, Ended: []int{9, 10, 16, 17}[i], Nodes: nodes})
	}
	p := planOf(50, nodeOf("done"), nodeOf("dead"), nodeOf("skipped", 1), nodeOf("ready"), nodeOf("beats"), nodeOf("backoff"), nodeOf("waiting", 3), nodeOf("leased"), nodeOf("high"), nodeOf("far"))
	p.Nodes[4].Beat, p.Nodes[8].Lane = 12, 2
	p.Nodes[9].Close, p.Nodes[9].Beat, p.Nodes[9].After = 1<<40, 1<<40, []int{0, 1}
	nodes := []api.NodeState{{State: 5, Attempts: 1, Result: []byte("r")}, {State: 6, Attempts: 2}, {State: 7}, {State: 2, Attempts: 1}, {State: 3, Attempts: 2, Token: 6}, {State: 4, Attempts: 1}, {State: 1}, {State: 3, Attempts: 1, Token: 3, Worker: 9}, {State: 2}, {State: 3, Attempts: 1, Token: 1, Worker: 1 << 40}}
	s.Runs = append(s.Runs, api.RunState{ID: 6, Key: "l", Plan: p, Status: 1, Submitted: 10, Nodes: nodes},
		api.RunState{ID: 8, Plan: planOf(30, nodeOf("a")), Status: 1, Submitted: 20, Nodes: []api.NodeState{{State: 2}}})
	s.Ready = []api.Ref{{Run: 6, Node: 3}, {Run: 8}, {Run: 6, Node: 8}}
	s.Timers = []api.Timer{{Due: 25, Kind: 4, Run: 6, Node: 5}, {Due: 26, Kind: 3, Run: 6, Node: 4}, {Due: 27, Kind: 2, Run: 6, Node: 7}, {Due: 28, Kind: 2, Run: 6, Node: 4}, {Due: 50, Kind: 1, Run: 8}, {Due: 60, Kind: 1, Run: 6}, {Due: 60, Kind: 2, Run: 6, Node: 9}, {Due: 60, Kind: 3, Run: 6, Node: 9}}
	return s
}

// crowd has live runs of so many nodes each, all ready.
func crowd(sizes ...int) api.State {
	s := api.State{NextRun: 300, NextToken: 1}
	for i, nodes := range sizes {
		r := api.RunState{ID: i + 1, Plan: planOf(100), Status: 1}
		for node := range nodes {
			r.Plan.Nodes = append(r.Plan.Nodes, nodeOf(fmt.Sprint("n", node)))
			r.Nodes = append(r.Nodes, api.NodeState{State: 2})
			s.Ready = append(s.Ready, api.Ref{Run: r.ID, Node: node})
		}
		s.Runs = append(s.Runs, r)
		s.Timers = append(s.Timers, api.Timer{Due: 100, Kind: 1, Run: r.ID})
	}
	return s
}

// tasks has as many nodes of live runs as may be, and some more.
func tasks(more ...int) func() api.State {
	return func() api.State { return crowd(append(slices.Repeat([]int{64}, 16), more...)...) }
}

// many has so many runs that were cancelled.
func many(runs int) func() api.State {
	return func() api.State {
		s := api.State{NextRun: 300, NextToken: 1}
		for id := range runs {
			s.Runs = append(s.Runs, api.RunState{ID: id + 1, Plan: planOf(100, nodeOf("a")), Status: 4, Nodes: []api.NodeState{{State: 6}}})
		}
		return s
	}
}

// atEnd has a run that was cancelled and a live one, both submitted fifty ticks ahead of the last time, where they are due.
func atEnd() api.State {
	s := many(1)()
	s.Now = 1<<62 - 50
	s.Runs[0].Submitted, s.Runs[0].Ended, s.Runs[0].Plan.Deadline = s.Now, s.Now, 50
	s.Runs = append(s.Runs, api.RunState{ID: 2, Plan: planOf(50, nodeOf("a")), Status: 1, Submitted: s.Now, Nodes: []api.NodeState{{State: 2}}})
	s.Ready, s.Timers = []api.Ref{{Run: 2}}, []api.Timer{{Due: 1 << 62, Kind: 1, Run: 2}}
	return s
}

// busy has as many timers as there can be: all nodes of 256 live runs are leased, and beat.
func busy() api.State {
	s := crowd(slices.Repeat([]int{4}, 256)...)
	s.Ready, s.NextToken = nil, 1<<40+1
	var beats []api.Timer
	for _, r := range s.Runs {
		for node := range r.Nodes {
			r.Plan.Nodes[node].Beat = 20
			r.Nodes[node] = api.NodeState{State: 3, Attempts: 1, Token: 1<<40 - 4*r.ID - node, Worker: 1 << 40}
			s.Timers = append(s.Timers, api.Timer{Due: 15, Kind: 2, Run: r.ID, Node: node})
			beats = append(beats, api.Timer{Due: 15, Kind: 3, Run: r.ID, Node: node})
		}
	}
	s.Timers = slices.Concat(s.Timers[256:], beats, s.Timers[:256])
	return s
}

// row is a state that was turned in a thing, and whether it may be then; what names the condition of engine.From that is looked at.
type row struct {
	what string
	base func() api.State
	turn func(s *api.State)
	may  bool
}

func (x row) state() api.State {
	s := x.base()
	x.turn(&s)
	return s
}

// rows are all of them: each condition just kept, and broken alone.
func rows() []row {
	return slices.Concat(numberRows(), runRows(), planRows(), timeRows(), leaseRows(), readyRows(), timerRows())
}

func numberRows() (list []row) {
	for _, n := range []int{math.MinInt, -1, 0, 1, 127, 128, 1<<40 - 1, 1 << 40, 1<<40 + 1, 1<<40 + 2, 1 << 62, 1<<62 + 1, math.MaxInt} {
		count := n >= 1 && n <= 1<<40+1
		list = append(list, row{"Now", fresh, func(s *api.State) { s.Now = n }, n >= 0 && n <= 1<<62},
			row{"NextRun", fresh, func(s *api.State) { s.NextRun = n }, count},
			row{"NextToken", fresh, func(s *api.State) { s.NextToken = n }, count},
			row{"Luck", fresh, func(s *api.State) { s.Luck = uint64(n) }, true})
	}
	return list
}

func runRows() []row {
	id := func(place, id int) func(s *api.State) { return func(s *api.State) { s.Runs[place].ID = id } }
	key := func(place int, key string) func(s *api.State) {
		return func(s *api.State) { s.Runs[place].Key = key }
	}
	next := func(n int) func(s *api.State) { return func(s *api.State) { s.NextRun = n } }
	as := func(s *api.State) {}
	return []row{
		{"runs", many(256), as, true}, {"runs", many(257), as, false},
		{"rising", mixed, id(2, 4), true}, {"rising", mixed, id(2, 2), false}, {"rising", mixed, func(s *api.State) { s.Runs[0], s.Runs[1] = s.Runs[1], s.Runs[0] }, false},
		{"ID", mixed, id(0, 0), false}, {"ID", mixed, id(0, -1), false}, {"ID", mixed, next(9), true}, {"ID", mixed, next(8), false}, {"ID", many(1), id(0, 299), true}, {"ID", many(1), id(0, 300), false},
		{"Key", mixed, key(1, strings.Repeat("k", 40)), true}, {"Key", mixed, key(1, strings.Repeat("k", 41)), false},
		{"keys", mixed, key(1, "S"), true}, {"keys", mixed, key(1, "s"), false}, {"keys", mixed, key(3, "l"), false}, {"keys", mixed, key(0, ""), true},
	}
}

// planRows are what package run's From looks at.
func planRows() []row {
	nodes := func(f func(nodes []api.NodeState) []api.NodeState) func(s *api.State) {
		return func(s *api.State) { s.Runs[0].Nodes = f(s.Runs[0].Nodes) }
	}
	status := func(place, status int) func(s *api.State) {
		return func(s *api.State) { s.Runs[place].Status = status }
	}
	result := func(place, size int) func(s *api.State) {
		return func(s *api.State) { s.Runs[place].Nodes[0].Result = make([]byte, size) }
	}
	attempts := func(n int) func(s *api.State) { return func(s *api.State) { s.Runs[0].Nodes[1].Attempts = n } }
	return []row{
		{"run.From", mixed, status(0, 0), false}, {"run.From", mixed, status(0, 6), false}, {"run.From", mixed, status(0, 3), false}, {"run.From", mixed, status(1, 4), true},
		{"run.From", mixed, attempts(1), true}, {"run.From", mixed, attempts(0), false}, {"run.From", mixed, attempts(3), false}, {"run.From", mixed, attempts(-1), false},
		{"run.From", mixed, result(0, 64), true}, {"run.From", mixed, result(0, 65), false}, {"run.From", mixed, result(1, 1), false},
		{"run.From", mixed, nodes(func(nodes []api.NodeState) []api.NodeState { return nodes[:1] }), false},
		{"run.From", mixed, nodes(func(nodes []api.NodeState) []api.NodeState { return append(nodes, nodes[0]) }), false},
		{"run.From", mixed, nodes(func(nodes []api.NodeState) []api.NodeState { return nil }), false},
		{"run.From", mixed, func(s *api.State) { s.Runs[4].Nodes[6].State = 7 }, false},
		{"run.From", mixed, func(s *api.State) { s.Runs[0].Nodes[0].State = 8 }, false},
		{"run.From", mixed, func(s *api.State) { s.Runs[0].Nodes[0].State = 0 }, false},
		{"run.From", mixed, func(s *api.State) { s.Runs[0].Plan.Name = "" }, false},
		{"run.From", mixed, func(s *api.State) { s.Runs[0].Plan.Name = strings.Repeat("n", 40) }, true},
		{"run.From", mixed, func(s *api.State) { s.Runs[0].Plan.Name = strings.Repeat("n", 41) }, false},
		{"run.From", mixed, func(s *api.State) { s.Runs[0].Plan.Nodes[1].Name = "a" }, false},
		{"run.From", mixed, func(s *api.State) { s.Runs[0].Plan.Nodes[0].Needs = []int{1} }, false},
		{"run.From", mixed, func(s *api.State) { s.Runs[0].Plan.Deadline = 1 << 40 }, true},
		{"run.From", mixed, func(s *api.State) { s.Runs[0].Plan.Deadline = 1<<40 + 1 }, false},
		{"run.From", mixed, func(s *api.State) { s.Runs[0].Plan.Nodes[0].Lane = 16 }, false},
		{"run.From", mixed, func(s *api.State) { s.Runs[0].Plan.Nodes = nil; s.Runs[0].Nodes = nil }, false},
	}
}

func timeRows() []row {
	// since turns when a run was submitted, and leaves its due.
	since := func(place, time int) func(s *api.State) {
		return func(s *api.State) {
			s.Runs[place].Plan.Deadline += s.Runs[place].Submitted - time
			s.Runs[place].Submitted = time
		}
	}
	ended := func(place, time int) func(s *api.State) {
		return func(s *api.State) { s.Runs[place].Ended = time }
	}
	// late lets a run have a due that is far off.
	late := func(time int) func(s *api.State) {
		return func(s *api.State) { s.Runs[1].Plan.Deadline, s.Runs[1].Ended = 30, time }
	}
	deadline := func(ticks int) func(s *api.State) {
		return func(s *api.State) { s.Runs[0].Plan.Deadline = ticks }
	}
	return []row{
		{"Submitted", mixed, since(0, 0), true}, {"Submitted", mixed, since(0, -1), false}, {"Submitted", mixed, since(4, 20), true}, {"Submitted", mixed, since(4, 21), false},
		{"due", atEnd, deadline(50), true}, {"due", atEnd, deadline(51), false}, {"due", atEnd, deadline(1 << 40), false},
		{"live: due above Now", atEnd, func(s *api.State) { s.Now = 1<<62 - 1 }, true}, {"live: due above Now", atEnd, func(s *api.State) { s.Now, s.Timers = 1<<62, nil }, false},
		{"live: Ended 0", mixed, ended(4, 1), false}, {"live: Ended 0", mixed, ended(4, 60), false}, {"live: Ended 0", mixed, ended(4, -1), false},
		{"Ended: not below Submitted", mixed, ended(1, 5), true}, {"Ended: not below Submitted", mixed, ended(1, 4), false}, {"Ended: not below Submitted", mixed, ended(1, -1), false},
		{"Ended: not above Now", mixed, late(20), true}, {"Ended: not above Now", mixed, late(21), false},
		{"Ended: just the due", mixed, ended(3, 16), false}, {"Ended: just the due", mixed, ended(3, 18), false},
		{"Ended: below the due", mixed, ended(2, 16), true}, {"Ended: below the due", mixed, ended(2, 17), false}, {"Ended: below the due", mixed, ended(0, 17), false},
	}
}

func leaseRows() []row {
	token := func(run, node, n int) func(s *api.State) {
		return func(s *api.State) { s.Runs[run].Nodes[node].Token = n }
	}
	worker := func(run, node, n int) func(s *api.State) {
		return func(s *api.State) { s.Runs[run].Nodes[node].Worker = n }
	}
	l := []row{
		{"Token", mixed, token(4, 7, 0), false}, {"Token", mixed, token(4, 7, -1), false}, {"Token", mixed, token(4, 7, 7), false}, {"Token", mixed, token(4, 7, 5), true},
		{"tokens", mixed, token(4, 7, 6), false}, {"tokens", mixed, token(4, 4, 1), false}, {"tokens", mixed, token(4, 4, 2), true},
		{"Worker", mixed, worker(4, 7, 0), true}, {"Worker", mixed, worker(4, 7, 1<<40), true}, {"Worker", mixed, worker(4, 7, 1<<40+1), false}, {"Worker", mixed, worker(4, 7, -1), false},
		{"no Token", mixed, token(0, 0, 2), false}, {"no Worker", mixed, worker(0, 0, 2), false},
		{"tasks", tasks(), func(s *api.State) {}, true}, {"tasks", tasks(1), func(s *api.State) {}, false},
	}
	for _, node := range []int{0, 1, 2, 3, 5, 6, 8} {
		l = append(l, row{"no Token", mixed, token(4, node, 2), false}, row{"no Worker", mixed, worker(4, node, 2), false})
	}
	return l
}

func readyRows() []row {
	more := func(run, node int) func(s *api.State) {
		return func(s *api.State) { s.Ready = append(s.Ready, api.Ref{Run: run, Node: node}) }
	}
	swap := func(a, b int) func(s *api.State) {
		return func(s *api.State) { s.Ready[a], s.Ready[b] = s.Ready[b], s.Ready[a] }
	}
	l := []row{
		{"Ready: once", mixed, more(6, 8), false},
		{"Ready: ready nodes", mixed, more(1, 0), false}, {"Ready: ready nodes", mixed, more(7, 0), false}, {"Ready: ready nodes", mixed, more(9, 0), false}, {"Ready: ready nodes", mixed, more(6, 63), false},
		{"Ready: ready nodes", mixed, more(0, 0), false}, {"Ready: ready nodes", mixed, more(-1, 0), false}, {"Ready: ready nodes", mixed, more(6, -1), false}, {"Ready: ready nodes", mixed, more(6, 64), false}, {"Ready: ready nodes", mixed, more(8, 1), false},
		{"Ready: lanes", mixed, swap(0, 1), true}, {"Ready: lanes", mixed, swap(1, 2), false}, {"Ready: lanes", mixed, swap(0, 2), false},
		{"Ready: all", mixed, func(s *api.State) { s.Ready = nil }, false},
	}
	for node := range 10 {
		if node != 3 && node != 8 {
			l = append(l, row{"Ready: ready nodes", mixed, more(6, node), false})
		}
	}
	for i := range 3 {
		l = append(l, row{"Ready: all", mixed, func(s *api.State) { s.Ready = slices.Delete(s.Ready, i, i+1) }, false})
	}
	return l
}

func timerRows() []row {
	inOrder := func(s *api.State) {
		slices.SortStableFunc(s.Timers, func(a, b api.Timer) int { return a.Due - b.Due })
	}
	at := func(place, time int) func(s *api.State) {
		return func(s *api.State) {
			s.Timers[place].Due = time
			inOrder(s)
		}
	}
	more := func(due, kind, run, node int) func(s *api.State) {
		return func(s *api.State) {
			s.Timers = append(s.Timers, api.Timer{Due: due, Kind: kind, Run: run, Node: node})
			inOrder(s)
		}
	}
	swap := func(a, b int) func(s *api.State) {
		return func(s *api.State) { s.Timers[a], s.Timers[b] = s.Timers[b], s.Timers[a] }
	}
	l := []row{
		{"timers: rising", mixed, swap(0, 1), false}, {"timers: rising", mixed, swap(3, 4), false},
		{"timers: above Now", mixed, at(0, 21), true}, {"timers: above Now", mixed, at(0, 20), false}, {"timers: above Now", mixed, at(1, 0), false}, {"timers: above Now", mixed, at(2, -1), false},
		{"timers: not above the due", mixed, at(7, 59), true}, {"timers: not above the due", mixed, at(7, 61), false}, {"timers: not above the due", mixed, at(6, 61), false},
		{"the deadline's time", mixed, at(4, 49), false}, {"the deadline's time", mixed, at(5, 59), false},
		{"the close's time", mixed, at(3, 35), true}, {"the close's time", mixed, at(3, 36), false},
		{"the beat's time", mixed, at(1, 32), true}, {"the beat's time", mixed, at(1, 33), false},
		{"the wake's time", mixed, at(0, 35), true}, {"the wake's time", mixed, at(0, 36), false},
		{"one deadline", mixed, more(50, 1, 8, 0), false}, {"one close", mixed, more(27, 2, 6, 7), false}, {"one beat", mixed, more(27, 3, 6, 4), false}, {"one wake", mixed, more(25, 4, 6, 5), false},
		{"no others", fresh, more(1, 1, 1, 0), false}, {"no others", mixed, more(25, 3, 6, 7), false}, {"no others", mixed, more(25, 2, 6, 3), false}, {"no others", mixed, more(25, 4, 8, 0), false}, {"no others", mixed, more(25, 2, 6, 63), false},
		{"no others", mixed, more(25, 0, 6, 4), false}, {"no others", mixed, more(25, 5, 6, 4), false}, {"no others", mixed, more(22, 1, 6, 1), false}, {"no others", mixed, more(25, 2, 7, 0), false}, {"no others", mixed, more(25, 2, 6, -1), false}, {"no others", mixed, more(25, 2, 0, 0), false},
		{"deadline ahead", mixed, swap(5, 6), false}, {"close ahead", mixed, swap(6, 7), false},
	}
	for i, what := range []string{"one wake", "one beat", "one close", "one close", "one deadline", "one deadline", "one close", "one beat"} {
		l = append(l, row{what, mixed, func(s *api.State) { s.Timers = slices.Delete(s.Timers, i, i+1) }, false})
	}
	return l
}

// Engines by chance.

// sameState holds two states against each other by how they are laid, field by field; nil and empty lists are one.
func sameState(a, b api.State) bool { return bytes.Equal(laid(a), laid(b)) }

func anyPlan(r *rand.Rand) api.Plan {
	p := planOf(1 + r.Intn(40))
	for i := range 1 + r.Intn(4) {
		n := api.Node{Name: fmt.Sprint("n", i), Lane: r.Intn(2), Budget: 1 + r.Intn(3), Close: 1 + r.Intn(9), Beat: r.Intn(6), Base: 1, Cap: 1 + r.Intn(5), Jitter: r.Intn(4)}
		for ahead := range i {
			switch r.Intn(5) {
			case 0:
				n.Needs = append(n.Needs, ahead)
			case 1:
				n.After = append(n.After, ahead)
			}
		}
		p.Nodes = append(p.Nodes, n)
	}
	return p
}

// leasesOf are the tokens under which nodes are leased.
func leasesOf(s api.State) (list []int) {
	for _, x := range s.Timers {
		if x.Kind == api.TimerClose {
			i := slices.IndexFunc(s.Runs, func(r api.RunState) bool { return r.ID == x.Run })
			list = append(list, s.Runs[i].Nodes[x.Node].Token)
		}
	}
	return list
}

// anyOp is an operation by chance, mostly one that an engine of this state lets pass.
func anyOp(r *rand.Rand, s api.State) api.Op {
	tokens := append(leasesOf(s), 1+r.Intn(s.NextToken))
	token, run := tokens[r.Intn(len(tokens))], 1+r.Intn(s.NextRun)
	switch kind := 1 + r.Intn(14); kind {
	case api.OpSubmit, 10:
		return api.Op{Kind: api.OpSubmit, Plan: anyPlan(r), Key: []string{"", "", "k", "key"}[r.Intn(4)]}
	case api.OpBeat, api.OpFail:
		return api.Op{Kind: kind, Token: token}
	case api.OpComplete:
		return api.Op{Kind: kind, Token: token, Result: bytes.Repeat([]byte{byte(token)}, r.Intn(4))}
	case api.OpCancel, api.OpForget:
		return api.Op{Kind: kind, Run: run}
	case api.OpDraw:
		return api.Op{Kind: kind, Luck: r.Uint64()}
	case api.OpTick:
		return api.Op{Kind: kind, Ticks: r.Intn(9)}
	}
	return api.Op{Kind: api.OpPoll, Lane: r.Intn(2), Worker: r.Intn(200)}
}

// course is an engine that was told so many operations.
func course(r *rand.Rand, ops int) *engine.Engine {
	e := engine.New()
	for range ops {
		e.Do(anyOp(r, e.State()))
	}
	return e
}

// gallery is states that may be.
func gallery(t *testing.T) []api.State {
	t.Helper()
	list := []api.State{fresh(), mixed(), atEnd(), many(3)(), crowd(2, 1), crowd(64)}
	for _, x := range rows() {
		if x.may {
			list = append(list, x.state())
		}
	}
	for i, s := range list {
		if !mayBe(s) {
			t.Fatalf("state %d of the gallery may not be: %s", i, told(s))
		}
	}
	return list
}
