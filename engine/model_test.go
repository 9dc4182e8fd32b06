package engine

import (
	"bytes"
	"fmt"
	"math/big"
	"slices"

	"escapement/api"
	"escapement/codec"
	"escapement/pace"
	"escapement/plan"
	"escapement/run"
)

// The model has the chapter's words, one by one. It stands as an api.State does, whose lists it goes through; of the layers below it asks codec.Check, plan.Same, pace and the steps of package run.
type model struct {
	s api.State
	a api.Answer // of the operation that is being done
}

func newModel() *model { return &model{s: api.State{NextRun: 1, NextToken: 1}} }

func (m *model) clone() *model { return &model{s: copyOf(m.s)} }

func (m *model) run(id int) *api.RunState {
	for i := range m.s.Runs {
		if m.s.Runs[i].ID == id {
			return &m.s.Runs[i]
		}
	}
	return nil
}

func (m *model) leased(token int) (*api.RunState, int) {
	for i := range m.s.Runs {
		for node, n := range m.s.Runs[i].Nodes {
			if n.State == api.NodeLeased && n.Token == token {
				return &m.s.Runs[i], node
			}
		}
	}
	return nil, 0
}

func dueOf(r *api.RunState) int { return r.Submitted + r.Plan.Deadline }

func (m *model) note(r *api.RunState, n api.Note) {
	n.Time, n.Run = m.s.Now, r.ID
	m.a.Notes = append(m.a.Notes, n)
}

// timer makes one, behind all that come at its time or ahead of it; its time is told.
func (m *model) timer(r *api.RunState, kind, node, ticks int) int {
	x := api.Timer{Due: min(m.s.Now+ticks, dueOf(r)), Kind: kind, Run: r.ID, Node: node}
	place := 0
	for place < len(m.s.Timers) && m.s.Timers[place].Due <= x.Due {
		place++
	}
	m.s.Timers = slices.Insert(m.s.Timers, place, x)
	return x.Due
}

func (m *model) without(gone func(x api.Timer) bool) {
	m.s.Timers = slices.DeleteFunc(m.s.Timers, gone)
}

func (m *model) withoutNode(r *api.RunState, node int) {
	m.without(func(x api.Timer) bool { return x.Run == r.ID && x.Node == node && x.Kind != api.TimerDeadline })
}

// push puts a node behind all of its lane and of those below it.
func (m *model) push(r *api.RunState, node int) {
	place := 0
	for place < len(m.s.Ready) && m.laneOf(m.s.Ready[place]) <= r.Plan.Nodes[node].Lane {
		place++
	}
	m.s.Ready = slices.Insert(m.s.Ready, place, api.Ref{Run: r.ID, Node: node})
}

func (m *model) laneOf(ref api.Ref) int { return m.run(ref.Run).Plan.Nodes[ref.Node].Lane }

// step lets package run make a step of a run that stands so, and takes down how it stands then.
func step(r *api.RunState, f func(x *run.Run) (api.Change, api.Errno)) api.Change {
	x, code := run.From(r.Plan, r.Status, r.Nodes)
	if code != 0 {
		panic(fmt.Sprint("no run may stand so: ", code, *r))
	}
	c, code := f(x)
	if code != 0 {
		panic(fmt.Sprint("a step is refused: ", code, *r))
	}
	takeDown(r, x)
	return c
}

func takeDown(r *api.RunState, x *run.Run) {
	r.Status = x.Status()
	for i := range r.Nodes {
		n := &r.Nodes[i]
		n.State, n.Attempts, _ = x.Node(i)
		n.Result, _ = x.Result(i)
		if n.State != api.NodeLeased {
			n.Token, n.Worker = 0, 0
		}
	}
}

func (m *model) change(r *api.RunState, c api.Change, why int) {
	for _, node := range c.Dead {
		m.note(r, api.Note{Kind: api.NoteDead, Node: node, Attempt: r.Nodes[node].Attempts, Why: why})
	}
	for _, node := range c.Skipped {
		m.note(r, api.Note{Kind: api.NoteSkipped, Node: node})
	}
	for _, node := range c.Ready {
		m.push(r, node)
		m.note(r, api.Note{Kind: api.NoteReady, Node: node})
	}
	if c.Status != api.RunLive {
		m.without(func(x api.Timer) bool { return x.Run == r.ID })
		r.Ended = m.s.Now
		m.note(r, api.Note{Kind: api.NoteEnded, Why: c.Status})
	}
}

func (m *model) fail(r *api.RunState, node, why int) {
	m.withoutNode(r, node)
	n := &r.Nodes[node]
	m.note(r, api.Note{Kind: api.NoteFailed, Node: node, Attempt: n.Attempts, Why: why})
	c := step(r, func(x *run.Run) (api.Change, api.Errno) { return x.Miss(node) })
	if n.State == api.NodeBackoff {
		wait, _ := pace.Wait(r.Plan.Nodes[node], m.s.Luck, r.ID, node, n.Attempts)
		due := m.timer(r, api.TimerWake, node, wait)
		m.note(r, api.Note{Kind: api.NoteBackoff, Node: node, Attempt: n.Attempts, Due: due})
	}
	m.change(r, c, api.WhyBudget)
}

func (m *model) stop(r *api.RunState, status, why int) {
	m.without(func(x api.Timer) bool { return x.Run == r.ID })
	m.s.Ready = slices.DeleteFunc(m.s.Ready, func(x api.Ref) bool { return x.Run == r.ID })
	m.change(r, step(r, func(x *run.Run) (api.Change, api.Errno) { return x.Stop(status) }), why)
}

func (m *model) handle(x api.Timer) {
	r := m.run(x.Run)
	switch x.Kind {
	case api.TimerDeadline:
		m.stop(r, api.RunExpired, api.WhyDeadline)
	case api.TimerClose:
		m.fail(r, x.Node, api.WhyClosed)
	case api.TimerBeat:
		m.fail(r, x.Node, api.WhyBeat)
	case api.TimerWake:
		m.change(r, step(r, func(y *run.Run) (api.Change, api.Errno) { return y.Wake(x.Node) }), 0)
	}
}

func (m *model) do(o api.Op) api.Answer {
	if code := codec.Check(o); code != 0 {
		return api.Answer{Code: code}
	}
	m.a = api.Answer{}
	m.a.Code = map[int]func(o api.Op) api.Errno{
		api.OpSubmit: m.submit, api.OpPoll: m.poll, api.OpBeat: m.told, api.OpComplete: m.told, api.OpFail: m.told,
		api.OpCancel: m.end, api.OpForget: m.end, api.OpDraw: m.draw, api.OpTick: m.tick,
	}[o.Kind](o)
	return m.a
}

func (m *model) submit(o api.Op) api.Errno {
	tasks := len(o.Plan.Nodes)
	for _, r := range m.s.Runs {
		if o.Key != "" && r.Key == o.Key {
			if !plan.Same(r.Plan, o.Plan) {
				return 141
			}
			m.a.Run, m.a.Again = r.ID, true
			return 0
		}
		if r.Status == api.RunLive {
			tasks += len(r.Plan.Nodes)
		}
	}
	switch {
	case sum(m.s.Now, o.Plan.Deadline).Cmp(sum(1<<62)) > 0:
		return 143
	case len(m.s.Runs) == 256 || tasks > 1024:
		return 142
	case m.s.NextRun > 1<<40:
		return 144
	}
	x, c, _ := run.New(o.Plan)
	s := api.RunState{ID: m.s.NextRun, Key: o.Key, Plan: planOf(o.Plan), Submitted: m.s.Now, Nodes: make([]api.NodeState, len(o.Plan.Nodes))}
	takeDown(&s, x)
	m.s.NextRun++
	m.s.Runs = append(m.s.Runs, s)
	r := m.run(s.ID)
	m.a.Run = s.ID
	m.note(r, api.Note{Kind: api.NoteSubmitted, Due: dueOf(r)})
	m.timer(r, api.TimerDeadline, 0, r.Plan.Deadline)
	m.change(r, c, 0)
	return 0
}

func (m *model) poll(o api.Op) api.Errno {
	place := slices.IndexFunc(m.s.Ready, func(x api.Ref) bool { return m.laneOf(x) == o.Lane })
	if place < 0 {
		return 145
	}
	if m.s.NextToken > 1<<40 {
		return 144
	}
	ref := m.s.Ready[place]
	m.s.Ready = slices.Delete(m.s.Ready, place, place+1)
	r := m.run(ref.Run)
	step(r, func(x *run.Run) (api.Change, api.Errno) {
		_, code := x.Lease(ref.Node)
		m.a.Task.Inputs, _ = x.Inputs(ref.Node)
		return api.Change{}, code
	})
	n, s := r.Plan.Nodes[ref.Node], &r.Nodes[ref.Node]
	s.Token, s.Worker = m.s.NextToken, o.Worker
	m.s.NextToken++
	m.a.Task = api.Task{Token: s.Token, Run: r.ID, Node: ref.Node, Name: n.Name, Attempt: s.Attempts, Inputs: m.a.Task.Inputs}
	m.a.Task.Until = m.timer(r, api.TimerClose, ref.Node, n.Close)
	if n.Beat != 0 {
		m.a.Task.BeatBy = m.timer(r, api.TimerBeat, ref.Node, n.Beat)
	}
	m.note(r, api.Note{Kind: api.NoteLeased, Node: ref.Node, Attempt: s.Attempts, Token: s.Token, Due: m.a.Task.Until})
	return 0
}

// told is what a worker tells: Beat, Complete, Fail.
func (m *model) told(o api.Op) api.Errno {
	r, node := m.leased(o.Token)
	if r == nil {
		return 146
	}
	beat, attempt := r.Plan.Nodes[node].Beat, r.Nodes[node].Attempts
	switch {
	case o.Kind == api.OpFail:
		m.fail(r, node, api.WhyTold)
	case o.Kind == api.OpComplete:
		m.withoutNode(r, node)
		m.note(r, api.Note{Kind: api.NoteDone, Node: node, Attempt: attempt})
		m.change(r, step(r, func(x *run.Run) (api.Change, api.Errno) { return x.Finish(node, o.Result) }), 0)
	case beat != 0:
		m.without(func(x api.Timer) bool { return x.Kind == api.TimerBeat && x.Run == r.ID && x.Node == node })
		due := m.timer(r, api.TimerBeat, node, beat)
		m.note(r, api.Note{Kind: api.NoteBeaten, Node: node, Attempt: attempt, Token: o.Token, Due: due})
	}
	return 0
}

// end is of a run: Cancel, Forget.
func (m *model) end(o api.Op) api.Errno {
	r := m.run(o.Run)
	switch {
	case r == nil:
		return 147
	case (r.Status == api.RunLive) != (o.Kind == api.OpCancel):
		return 148
	case o.Kind == api.OpCancel:
		m.stop(r, api.RunCancelled, api.WhyCancelled)
		return 0
	}
	m.note(r, api.Note{Kind: api.NoteForgotten})
	m.s.Runs = slices.DeleteFunc(m.s.Runs, func(x api.RunState) bool { return x.ID == o.Run })
	return 0
}

func (m *model) draw(o api.Op) api.Errno {
	m.s.Luck = pace.Mix(m.s.Luck, o.Luck)
	return 0
}

func (m *model) tick(o api.Op) api.Errno {
	end := 1 << 62
	if x := sum(m.s.Now, o.Ticks); x.Cmp(sum(end)) < 0 {
		end = int(x.Int64())
	}
	for len(m.s.Timers) > 0 && m.s.Timers[0].Due <= end {
		x := m.s.Timers[0]
		m.s.Timers = m.s.Timers[1:]
		m.s.Now = x.Due
		m.handle(x)
	}
	m.s.Now = end
	return 0
}

// sum is exact, whatever the numbers are.
func sum(numbers ...int) *big.Int {
	all := new(big.Int)
	for _, n := range numbers {
		all.Add(all, big.NewInt(int64(n)))
	}
	return all
}

// broken names the conditions under which a state may be that do not hold, by the numbers that the chapter gives them.
func broken(s api.State) (list []string) {
	need := func(holds bool, what string) {
		if !holds && !slices.Contains(list, what) {
			list = append(list, what)
		}
	}
	need(s.Now >= 0 && s.Now <= 1<<62, "1 Now")
	need(s.NextRun >= 1 && s.NextRun <= 1<<40+1, "1 NextRun")
	need(s.NextToken >= 1 && s.NextToken <= 1<<40+1, "1 NextToken")
	need(len(s.Runs) <= 256, "2 runs")
	keys, tokens, tasks := map[string]int{}, map[int]int{}, 0
	for i, r := range s.Runs {
		need(i == 0 || s.Runs[i-1].ID < r.ID, "2 rising")
		need(r.ID >= 1 && r.ID < s.NextRun, "2 ID")
		need(len(r.Key) <= 40, "2 key")
		need(r.Key == "" || keys[r.Key] == 0, "2 keys")
		keys[r.Key]++
		brokenRun(s, r, need)
		if r.Status == api.RunLive {
			tasks += len(r.Plan.Nodes)
		}
		for _, n := range r.Nodes {
			if r.Status != api.RunLive || n.State != api.NodeLeased {
				need(n.Token == 0, "4 no token")
				need(n.Worker == 0, "4 no worker")
				continue
			}
			need(n.Token >= 1 && n.Token < s.NextToken, "4 token")
			need(tokens[n.Token] == 0, "4 tokens")
			tokens[n.Token]++
			need(n.Worker >= 0 && n.Worker <= 1<<40, "4 worker")
		}
	}
	need(tasks <= 1024, "5 tasks")
	brokenReady(s, need)
	brokenTimers(s, need)
	return list
}

func brokenRun(s api.State, r api.RunState, need func(holds bool, what string)) {
	_, code := run.From(r.Plan, r.Status, r.Nodes)
	need(code == 0, "3 run.From")
	need(r.Submitted >= 0 && r.Submitted <= s.Now, "3 submitted")
	due := sum(r.Submitted, r.Plan.Deadline)
	need(due.Cmp(sum(1<<62)) <= 0, "3 due")
	if r.Status == api.RunLive {
		need(due.Cmp(sum(s.Now)) > 0, "3 live: due above Now")
		need(r.Ended == 0, "3 live: Ended 0")
		return
	}
	need(r.Ended >= r.Submitted, "3 ended: not below Submitted")
	need(r.Ended <= s.Now, "3 ended: not above Now")
	if r.Status == api.RunExpired {
		need(due.Cmp(sum(r.Ended)) == 0, "3 ended: just the due")
	} else {
		need(due.Cmp(sum(r.Ended)) > 0, "3 ended: below the due")
	}
}

// liveNode finds a node of a live run that is in that state.
func liveNode(s api.State, id, node, state int) *api.Node {
	for _, r := range s.Runs {
		if r.ID == id && r.Status == api.RunLive && node >= 0 && node < min(len(r.Nodes), len(r.Plan.Nodes)) && r.Nodes[node].State == state {
			return &r.Plan.Nodes[node]
		}
	}
	return nil
}

func brokenReady(s api.State, need func(holds bool, what string)) {
	seen, lane := map[api.Ref]int{}, 0
	for _, x := range s.Ready {
		need(seen[x] == 0, "6 once")
		seen[x]++
		n := liveNode(s, x.Run, x.Node, api.NodeReady)
		need(n != nil, "6 ready nodes")
		if n != nil {
			need(n.Lane >= lane, "6 lanes")
			lane = max(lane, n.Lane)
		}
	}
	for _, r := range s.Runs {
		for i, n := range r.Nodes {
			need(r.Status != api.RunLive || n.State != api.NodeReady || seen[api.Ref{Run: r.ID, Node: i}] > 0, "6 all")
		}
	}
}

func brokenTimers(s api.State, need func(holds bool, what string)) {
	seen := map[api.Timer]int{} // by all but the time
	times := map[api.Timer][]int{}
	for i, x := range s.Timers {
		need(i == 0 || s.Timers[i-1].Due <= x.Due, "7 rising")
		need(x.Due > s.Now, "7 above Now")
		for _, r := range s.Runs {
			need(r.ID != x.Run || sum(x.Due).Cmp(sum(r.Submitted, r.Plan.Deadline)) <= 0, "7 not above the due")
		}
		bare := x
		bare.Due = 0
		seen[bare]++
		times[bare] = append(times[bare], x.Due)
	}
	wanted := 0
	want := func(name string, x api.Timer, holds func(due int) bool) {
		wanted++
		need(seen[x] == 1, "7 one "+name)
		for _, due := range times[x] {
			need(holds(due), "7 "+name+"'s time")
		}
	}
	for _, r := range s.Runs {
		if r.Status != api.RunLive {
			continue
		}
		due := sum(r.Submitted, r.Plan.Deadline)
		want("deadline", api.Timer{Kind: api.TimerDeadline, Run: r.ID}, func(at int) bool { return due.Cmp(sum(at)) == 0 })
		for i := range r.Nodes {
			by := func(ticks ...int) func(due int) bool {
				return func(at int) bool { return sum(at).Cmp(sum(append(ticks, s.Now)...)) <= 0 }
			}
			if n := liveNode(s, r.ID, i, api.NodeLeased); n != nil {
				want("close", api.Timer{Kind: api.TimerClose, Run: r.ID, Node: i}, by(n.Close))
				if n.Beat != 0 {
					want("beat", api.Timer{Kind: api.TimerBeat, Run: r.ID, Node: i}, by(n.Beat))
				}
			}
			if n := liveNode(s, r.ID, i, api.NodeBackoff); n != nil {
				want("wake", api.Timer{Kind: api.TimerWake, Run: r.ID, Node: i}, by(n.Cap, n.Jitter))
			}
		}
	}
	need(len(seen) <= wanted, "7 no others")
	for i, x := range s.Timers {
		for _, ahead := range s.Timers[:i] {
			if ahead.Due == x.Due && ahead.Run == x.Run {
				need(x.Kind != api.TimerDeadline || ahead.Kind == api.TimerDeadline, "7 deadline ahead")
				need(x.Kind != api.TimerClose || ahead.Kind != api.TimerBeat || x.Node != ahead.Node, "7 close ahead")
			}
		}
	}
}

// planOf and copyOf share nothing with what they are of.
func planOf(p api.Plan) api.Plan {
	p.Nodes = slices.Clone(p.Nodes)
	for i := range p.Nodes {
		p.Nodes[i].Needs, p.Nodes[i].After = slices.Clone(p.Nodes[i].Needs), slices.Clone(p.Nodes[i].After)
	}
	return p
}

func copyOf(s api.State) api.State {
	s.Runs, s.Ready, s.Timers = slices.Clone(s.Runs), slices.Clone(s.Ready), slices.Clone(s.Timers)
	for i := range s.Runs {
		r := &s.Runs[i]
		r.Plan, r.Nodes = planOf(r.Plan), slices.Clone(r.Nodes)
		for j := range r.Nodes {
			r.Nodes[j].Result = bytes.Clone(r.Nodes[j].Result)
		}
	}
	return s
}

func sameNode(a, b api.NodeState) bool {
	return a.State == b.State && a.Attempts == b.Attempts && a.Token == b.Token && a.Worker == b.Worker && bytes.Equal(a.Result, b.Result)
}

func sameRun(a, b api.RunState) bool {
	return a.ID == b.ID && a.Key == b.Key && plan.Same(a.Plan, b.Plan) && a.Status == b.Status && a.Submitted == b.Submitted && a.Ended == b.Ended && slices.EqualFunc(a.Nodes, b.Nodes, sameNode)
}

func sameState(a, b api.State) bool {
	return a.Now == b.Now && a.Luck == b.Luck && a.NextRun == b.NextRun && a.NextToken == b.NextToken &&
		slices.EqualFunc(a.Runs, b.Runs, sameRun) && slices.Equal(a.Ready, b.Ready) && slices.Equal(a.Timers, b.Timers)
}

func sameAnswer(a, b api.Answer) bool {
	x, y := a.Task, b.Task
	return a.Code == b.Code && a.Run == b.Run && a.Again == b.Again && slices.Equal(a.Notes, b.Notes) &&
		x.Token == y.Token && x.Run == y.Run && x.Node == y.Node && x.Name == y.Name && x.Attempt == y.Attempt && x.Until == y.Until && x.BeatBy == y.BeatBy && slices.EqualFunc(x.Inputs, y.Inputs, bytes.Equal)
}
