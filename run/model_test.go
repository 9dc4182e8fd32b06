package run

import (
	"fmt"
	"math"
	"math/rand"
	"slices"
	"strconv"
	"strings"
	"testing"

	"escapement/api"
	"escapement/plan"
)

func chance(seed int64) *rand.Rand { return rand.New(rand.NewSource(seed)) }

// The states, as the chapter numbers them.
const (
	waiting = 1 + iota
	ready
	leased
	backoff
	done
	dead
	skipped
)

// And how a run stands.
const (
	live = 1 + iota
	succeeded
	failed
	cancelled
	expired
)

// The model has the chapter's words, one by one.
type model struct {
	p        api.Plan
	status   int
	state    []int
	attempts []int
	result   []string
}

// newModel is of a plan that may be.
func newModel(p api.Plan) (*model, api.Change) {
	n := len(p.Nodes)
	m := &model{copyOf(p), live, make([]int, n), make([]int, n), make([]string, n)}
	for i := range m.state {
		m.state[i] = waiting
	}
	var c api.Change
	m.settleOn(&c)
	return m, c
}

func (m *model) clone() *model {
	return &model{m.p, m.status, slices.Clone(m.state), slices.Clone(m.attempts), slices.Clone(m.result)}
}

func isSettled(state int) bool { return state == done || state == dead || state == skipped }

// isToBeSkipped asks by the others' states, as if the node waited.
func isToBeSkipped(p api.Plan, state []int, node int) bool {
	for _, on := range p.Nodes[node].Needs {
		if state[on] == dead || state[on] == skipped {
			return true
		}
	}
	return false
}

func isToBegin(p api.Plan, state []int, node int) bool {
	for _, on := range p.Nodes[node].Needs {
		if state[on] != done {
			return false
		}
	}
	for _, on := range p.Nodes[node].After {
		if !isSettled(state[on]) {
			return false
		}
	}
	return true
}

func (m *model) settleOn(c *api.Change) {
	defer func() { c.Status = m.status }()
	if m.status != live {
		return
	}
	for {
		least := -1
		for i := len(m.state) - 1; i >= 0; i-- {
			if m.state[i] == waiting && isToBeSkipped(m.p, m.state, i) {
				least = i
			}
		}
		if least < 0 {
			break
		}
		m.state[least] = skipped
		c.Skipped = append(c.Skipped, least)
	}
	for i := range m.state {
		if m.state[i] == waiting && isToBegin(m.p, m.state, i) {
			c.Ready = append(c.Ready, i)
		}
	}
	for _, i := range c.Ready {
		m.state[i] = ready
	}
	if slices.ContainsFunc(m.state, func(s int) bool { return !isSettled(s) }) {
		return
	}
	m.status = succeeded
	if slices.ContainsFunc(m.state, func(s int) bool { return s != done }) {
		m.status = failed
	}
}

// call is a step: Lease, Finish, Miss or Wake of a node, or Stop with a status in its place.
type call struct {
	name   string
	number int
	result string
}

type outcome struct {
	attempt int
	change  api.Change
	code    api.Errno
}

func (o outcome) String() string {
	return fmt.Sprintf("attempt %d, dead %v, skipped %v, ready %v, status %d, error %d", o.attempt, o.change.Dead, o.change.Skipped, o.change.Ready, o.change.Status, o.code)
}

func (m *model) do(c call) (o outcome) {
	if c.name == "Stop" {
		return m.stop(c.number)
	}
	i := c.number
	if i < 0 || i >= len(m.state) {
		return outcome{code: 130}
	}
	if c.name == "Finish" && len(c.result) > 64 {
		return outcome{code: 1}
	}
	if wanted := map[string]int{"Lease": ready, "Finish": leased, "Miss": leased, "Wake": backoff}[c.name]; m.state[i] != wanted {
		return outcome{code: 131}
	}
	switch c.name {
	case "Lease":
		m.state[i] = leased
		m.attempts[i]++
		return outcome{attempt: m.attempts[i]}
	case "Finish":
		m.state[i], m.result[i] = done, c.result
	case "Miss":
		if m.attempts[i] == m.p.Nodes[i].Budget {
			m.state[i] = dead
			o.change.Dead = []int{i}
		} else {
			m.state[i] = backoff
		}
	case "Wake":
		m.state[i] = ready
		m.settleOn(&o.change)
		o.change.Ready = append(o.change.Ready, i)
		slices.Sort(o.change.Ready)
		return o
	}
	m.settleOn(&o.change)
	return o
}

func (m *model) stop(status int) (o outcome) {
	if status != cancelled && status != expired {
		return outcome{code: 1}
	}
	if m.status != live {
		return outcome{code: 131}
	}
	for i, s := range m.state {
		switch s {
		case ready, leased, backoff:
			m.state[i] = dead
			o.change.Dead = append(o.change.Dead, i)
		case waiting:
			m.state[i] = skipped
			o.change.Skipped = append(o.change.Skipped, i)
		}
	}
	m.status, o.change.Status = status, status
	return o
}

func (m *model) inputs(i int) ([]string, api.Errno) {
	if m.state[i] != ready && m.state[i] != leased {
		return nil, 131
	}
	var list []string
	for _, on := range m.p.Nodes[i].Needs {
		list = append(list, m.result[on])
	}
	return list, 0
}

// view tells all that can be asked of a run but its plan.
func (m *model) view() string {
	text := append([]byte("status "), strconv.Itoa(m.status)...)
	for i := range m.state {
		inputs, code := m.inputs(i)
		text = viewOne(text, i, m.state[i], m.attempts[i], m.result[i], inputs, code)
	}
	return string(text)
}

// viewOne lays a node behind the text.
func viewOne(text []byte, node, state, attempts int, result string, inputs []string, code api.Errno) []byte {
	text = strconv.AppendInt(append(text, "; "...), int64(node), 10)
	text = strconv.AppendInt(append(text, ": "...), int64(state), 10)
	text = strconv.AppendInt(append(text, ' '), int64(attempts), 10)
	if result != "" {
		text = strconv.AppendQuote(append(text, ' '), result)
	}
	if code != 0 {
		return strconv.AppendInt(append(text, " error "...), int64(code), 10)
	}
	text = append(text, " inputs"...)
	for _, in := range inputs {
		text = strconv.AppendQuote(append(text, ' '), in)
	}
	return text
}

// states is how all nodes of a model stand, for From; what it does not look at is not zero.
func (m *model) states() []api.NodeState {
	var list []api.NodeState
	for i, s := range m.state {
		list = append(list, api.NodeState{State: s, Attempts: m.attempts[i], Token: 7 + i, Worker: -i, Result: []byte(m.result[i])})
	}
	return list
}

// broken names the conditions under which a run may stand so that do not hold; the plan may be.
func broken(p api.Plan, status int, nodes []api.NodeState) (list []string) {
	if len(nodes) != len(p.Nodes) {
		return []string{"as many nodes"}
	}
	state := make([]int, len(nodes))
	for i, n := range nodes {
		state[i] = n.State
		list = append(list, brokenNode(n, p.Nodes[i].Budget, status)...)
	}
	open := slices.ContainsFunc(state, func(s int) bool { return !isSettled(s) })
	allDone := !slices.ContainsFunc(state, func(s int) bool { return s != done })
	switch status {
	case live:
		if !open {
			list = append(list, "live: not all settled")
		}
		list = append(list, brokenSkips("live", p, state)...)
		for i, s := range state {
			begins := isToBegin(p, state, i)
			if s == skipped || isToBeSkipped(p, state, i) {
				continue // of the rest
			}
			if begins && s == waiting {
				list = append(list, "live: what may begin does not wait")
			}
			if !begins && s != waiting {
				list = append(list, "live: what may not begin waits")
			}
		}
	case succeeded:
		if !allDone {
			list = append(list, "succeeded: all done")
		}
	case failed:
		if open {
			list = append(list, "failed: all settled")
		}
		if allDone {
			list = append(list, "failed: not all done")
		}
		list = append(list, brokenSkips("failed", p, state)...)
	case cancelled, expired:
		if open {
			list = append(list, "stopped: all settled")
		}
		if allDone {
			list = append(list, "stopped: not all done")
		}
	default:
		list = append(list, "a status")
	}
	return list
}

func brokenSkips(what string, p api.Plan, state []int) (list []string) {
	for i, s := range state {
		skips := isToBeSkipped(p, state, i)
		if skips && s != skipped {
			list = append(list, what+": what is to be skipped is")
		}
		if !skips && s == skipped {
			list = append(list, what+": no other one is skipped")
		}
	}
	return list
}

func brokenNode(n api.NodeState, budget, status int) (list []string) {
	if n.State < 1 || n.State > 7 {
		return []string{"a state"}
	}
	if len(n.Result) > 64 {
		list = append(list, "result: at most 64")
	}
	if len(n.Result) > 0 && n.State != done {
		list = append(list, "result: only if done")
	}
	bounds := [8][2]int{waiting: {0, 0}, skipped: {0, 0}, ready: {0, budget - 1}, backoff: {1, budget - 1}, leased: {1, budget}, done: {1, budget}, dead: {budget, budget}}[n.State]
	if n.State == dead && (status == cancelled || status == expired) {
		bounds = [2]int{0, budget}
	}
	if n.Attempts < bounds[0] {
		list = append(list, fmt.Sprintf("attempts: least in state %d", n.State))
	}
	if n.Attempts > bounds[1] {
		list = append(list, fmt.Sprintf("attempts: most in state %d", n.State))
	}
	return list
}

// Plans of the examples' form.

func node(name string, needs, after []int) api.Node {
	return api.Node{Name: name, Budget: 2, Close: 10, Base: 4, Cap: 8, Needs: needs, After: after}
}

func of(nodes ...api.Node) api.Plan { return api.Plan{Name: "p", Deadline: 100, Nodes: nodes} }

// budgets gives a plan's nodes these.
func budgets(p api.Plan, list ...int) api.Plan {
	p = copyOf(p)
	for i, b := range list {
		p.Nodes[i].Budget = b
	}
	return p
}

// plain has so many nodes without an edge.
func plain(nodes int) api.Plan {
	p := of()
	for i := range nodes {
		p.Nodes = append(p.Nodes, node("n"+strconv.Itoa(i), nil, nil))
	}
	return p
}

// line is the examples' a, b [0].
func line() api.Plan { return of(node("a", nil, nil), node("b", []int{0}, nil)) }

// copyOf shares nothing with a plan.
func copyOf(p api.Plan) api.Plan {
	p.Nodes = slices.Clone(p.Nodes)
	for i := range p.Nodes {
		p.Nodes[i].Needs, p.Nodes[i].After = slices.Clone(p.Nodes[i].Needs), slices.Clone(p.Nodes[i].After)
	}
	return p
}

// lay puts an edge into one of both lists, where it belongs, unless it is there.
func lay(p api.Plan, from, to int, after bool) {
	n := &p.Nodes[from]
	if slices.Contains(n.Needs, to) || slices.Contains(n.After, to) {
		return
	}
	list := &n.Needs
	if after {
		list = &n.After
	}
	*list = append(*list, to)
	slices.Sort(*list)
}

func edgesOf(p api.Plan) int {
	edges := 0
	for _, n := range p.Nodes {
		edges += len(n.Needs) + len(n.After)
	}
	return edges
}

// anyPlan is one that may be: its edges lead to nodes that are ahead in a row that chance makes; its budgets are small.
func anyPlan(r *rand.Rand, nodes, edges int) api.Plan {
	p := plain(nodes)
	p.Name, p.Deadline = "p"+strconv.Itoa(r.Intn(100)), 1+r.Intn(1<<40)
	for i := range p.Nodes {
		n := &p.Nodes[i]
		n.Lane, n.Budget, n.Close, n.Beat, n.Jitter = r.Intn(16), 1+r.Intn(3), 1+r.Intn(100), r.Intn(9), r.Intn(9)
		n.Base, n.Cap = 1+r.Intn(9), 9+r.Intn(9)
	}
	row := r.Perm(nodes)
	for range edges {
		if from := r.Intn(nodes); from > 0 && edgesOf(p) < 256 {
			lay(p, row[from], row[r.Intn(from)], r.Intn(3) == 0)
		}
	}
	return p
}

// someOf is a plan of any size, more often a small one.
func someOf(r *rand.Rand) api.Plan {
	nodes := 1 + r.Intn(1<<r.Intn(7))
	return anyPlan(r, nodes, r.Intn(3*nodes+1))
}

// allOfThree goes through all plans of three nodes that may be: each pair has no edge, one in Needs or one in After.
func allOfThree(visit func(p api.Plan)) {
	pairs := [][2]int{{0, 1}, {0, 2}, {1, 0}, {1, 2}, {2, 0}, {2, 1}}
	for code := range 729 {
		p := plain(3)
		rest := code
		for _, pair := range pairs {
			if rest%3 > 0 {
				lay(p, pair[0], pair[1], rest%3 == 2)
			}
			rest /= 3
		}
		if _, bad := plan.Check(p); bad == 0 {
			visit(p)
		}
	}
}

// told is a plan in few words.
func told(p api.Plan) string {
	text := "plan"
	for _, n := range p.Nodes {
		text += fmt.Sprintf(" %.10q %d %v %v", n.Name, n.Budget, n.Needs, n.After)
		if len(text) > 2000 {
			return text[:2000] + " .."
		}
	}
	return text
}

// strange are numbers of no node: behind the last, below the first, and such whose low bits are a node's.
func strange(nodes int) []int {
	return []int{nodes, nodes + 1, 64, 65, 1 << 16, 1 << 32, 1<<32 + 1, math.MaxInt, -1, -2, -64, -1 << 32, math.MinInt, math.MinInt + 1}
}

// desk has a run and the model of it side by side.
type desk struct {
	t       *testing.T
	r       *Run
	m       *model
	promise string
	calls   []string
}

func begin(t *testing.T, promise string, p api.Plan) (*desk, api.Change) {
	t.Helper()
	r, c, code := New(p)
	if r == nil || code != api.OK {
		t.Fatalf("P13.1: New(%s): %v, %d", told(p), r, code)
	}
	m, want := newModel(p)
	if got, want := (outcome{change: c}), (outcome{change: want}); got.String() != want.String() {
		t.Fatalf("P13.1: New(%s): %v; want %v", told(p), got, want)
	}
	d := &desk{t, r, m, promise, nil}
	d.stands()
	return d, c
}

// in is a run that these calls led to, of the form "Lease 0, Finish 0 x, Stop 4"; they are all let pass.
func in(t *testing.T, promise string, p api.Plan, calls string) *desk {
	t.Helper()
	d, _ := begin(t, promise, p)
	if calls == "" {
		return d
	}
	for _, text := range strings.Split(calls, ", ") {
		if o := d.do(read(text)); o.code != api.OK {
			t.Fatalf("%s: %s, behind %v: %v", promise, text, d.calls, o)
		}
	}
	return d
}

func read(text string) call {
	words := strings.Split(text, " ")
	number, err := strconv.Atoi(words[1])
	if err != nil {
		panic(err)
	}
	return call{words[0], number, strings.Join(words[2:], " ")}
}

func ask(r *Run, c call) (o outcome) {
	switch c.name {
	case "Lease":
		o.attempt, o.code = r.Lease(c.number)
	case "Finish":
		o.change, o.code = r.Finish(c.number, []byte(c.result))
	case "Miss":
		o.change, o.code = r.Miss(c.number)
	case "Wake":
		o.change, o.code = r.Wake(c.number)
	case "Stop":
		o.change, o.code = r.Stop(c.number)
	default:
		panic(c.name)
	}
	return o
}

// do asks both, and holds the answers and all that can be asked then against each other.
func (d *desk) do(c call) outcome {
	d.t.Helper()
	d.calls = append(d.calls, fmt.Sprintf("%s %d", c.name, c.number))
	got, want := ask(d.r, c), d.m.do(c)
	if got.String() != want.String() {
		d.t.Fatalf("%s: %s, %v: %v; want %v", d.promise, told(d.m.p), d.calls, got, want)
	}
	d.stands()
	return got
}

func (d *desk) stands() {
	d.t.Helper()
	if got, want := viewOf(d.t, d.r), d.m.view(); got != want {
		d.t.Fatalf("%s: %s, %v: %s; want %s", d.promise, told(d.m.p), d.calls, got, want)
	}
	if !plan.Same(d.r.Plan(), d.m.p) {
		d.t.Fatalf("P13.2: %s, %v: Plan is %s", told(d.m.p), d.calls, told(d.r.Plan()))
	}
}

// gives does a call of the form of in, and holds its outcome against what is wanted.
func (d *desk) gives(text string, want outcome) {
	d.t.Helper()
	if got := d.do(read(text)); got.String() != want.String() {
		d.t.Errorf("%s: %s, %v: %v; want %v", d.promise, told(d.m.p), d.calls, got, want)
	}
}

// viewOf asks a run for all of its nodes.
func viewOf(t *testing.T, r *Run) string {
	t.Helper()
	text := append([]byte("status "), strconv.Itoa(r.Status())...)
	for i := range r.Plan().Nodes {
		state, attempts, code := r.Node(i)
		result, also := r.Result(i)
		if code != api.OK || also != api.OK {
			t.Fatalf("P13.2: Node(%d): %d; Result: %d", i, code, also)
		}
		rows, code := r.Inputs(i)
		if code != api.OK && rows != nil {
			t.Fatalf("R2: Inputs(%d): %v, %d", i, rows, code)
		}
		var inputs []string
		for _, row := range rows {
			inputs = append(inputs, string(row))
		}
		text = viewOne(text, i, state, attempts, string(result), inputs, code)
	}
	return string(text)
}

// wantsFrom asks for a run that stands so, and, if there is one, for how it stands.
func wantsFrom(t *testing.T, promise string, p api.Plan, status int, nodes []api.NodeState, want api.Errno) *Run {
	t.Helper()
	r, code := From(p, status, nodes)
	if code != want || (r != nil) != (want == api.OK) {
		t.Fatalf("%s: From(%s, %d, %v): %v, %d; want %d", promise, told(p), status, nodes, r != nil, code, want)
	}
	if r == nil {
		return nil
	}
	m := &model{p: p, status: status}
	for _, n := range nodes {
		m.state, m.attempts, m.result = append(m.state, n.State), append(m.attempts, n.Attempts), append(m.result, string(n.Result))
	}
	if got := viewOf(t, r); got != m.view() {
		t.Fatalf("%s: From(%s, %d, %v) is %s; want %s", promise, told(p), status, nodes, got, m.view())
	}
	if !plan.Same(r.Plan(), p) {
		t.Fatalf("%s: From(%s, %d, %v): Plan is %s", promise, told(p), status, nodes, told(r.Plan()))
	}
	return r
}
