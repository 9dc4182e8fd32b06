package engine

import (
	"escapement/api"
	"escapement/run"
)

// From is one that has all this.
func From(s api.State) (*Engine, api.Errno) {
	if !within(s.Now, 0, api.MaxTime) || !within(s.NextRun, 1, api.MaxCount+1) || !within(s.NextToken, 1, api.MaxCount+1) {
		return nil, api.ErrEngineState
	}
	e := emptyAt(s.Now)
	e.luck, e.nextRun, e.nextToken = s.Luck, s.NextRun, s.NextToken
	if !e.takeRuns(s.Runs) || !e.takeReady(s.Ready) || !e.takeTimers(s.Timers) {
		return nil, api.ErrEngineState
	}
	return e, api.OK
}

func (e *Engine) takeRuns(runs []api.RunState) bool {
	if len(runs) > api.MaxRuns {
		return false
	}
	last := 0
	for _, s := range runs {
		if s.ID <= last || !e.takeRun(s) {
			return false
		}
		last = s.ID
	}
	return e.tasks <= api.MaxTasks
}

func (e *Engine) takeRun(s api.RunState) bool {
	if s.ID >= e.nextRun || len(s.Key) > api.MaxKey || !within(s.Submitted, 0, e.Now()) {
		return false
	}
	if _, there := e.findKey(s.Key); there {
		return false
	}
	r, code := run.From(s.Plan, s.Status, s.Nodes)
	if code != api.OK {
		return false
	}
	k := keep(r, s.ID, s.Key, s.Submitted)
	k.ended = s.Ended
	e.runs = append(e.runs, k)
	if k.live() {
		e.tasks += len(s.Nodes)
	}
	return e.timesHold(k) && e.takeLeases(k, s.Nodes)
}

// timesHold looks at a run's due, and when it has ended.
func (e *Engine) timesHold(k *kept) bool {
	due := k.due()
	switch {
	case due > api.MaxTime:
		return false
	case k.live():
		return due > e.Now() && k.ended == 0
	case k.Status() == api.RunExpired:
		return k.ended == due && due <= e.Now()
	}
	return within(k.ended, k.submitted, e.Now()) && k.ended < due
}

func (e *Engine) takeLeases(k *kept, nodes []api.NodeState) bool {
	for i, n := range nodes {
		l := lease{n.Token, n.Worker}
		if n.State != api.NodeLeased {
			if l != (lease{}) {
				return false
			}
			continue
		}
		_, there := e.leases[l.token]
		if there || !within(l.token, 1, e.nextToken-1) || !within(l.worker, 0, api.MaxCount) {
			return false
		}
		e.hand(k, i, l)
	}
	return true
}

// takeReady lets none stand twice: a queue refuses that. So if they are as many as they should be, none is missing.
func (e *Engine) takeReady(refs []api.Ref) bool {
	lane := 0
	for _, ref := range refs {
		k, ok := e.find(ref.Run)
		if !ok || !k.stands(ref.Node, api.NodeReady) || k.plan.Nodes[ref.Node].Lane < lane {
			return false
		}
		lane = k.plan.Nodes[ref.Node].Lane
		if _, code := e.queues[lane].Push(ref); code != api.OK {
			return false
		}
	}
	ready, _ := e.count()
	return len(refs) == ready
}

// takeTimers lets none stand twice either.
func (e *Engine) takeTimers(timers []api.Timer) bool {
	last := e.Now() + 1
	for _, x := range timers {
		m := mark{x.Kind, api.Ref{Run: x.Run, Node: x.Node}}
		k, ok := e.find(x.Run)
		if !ok || !within(x.Due, last, k.due()) || e.clock.at(m) != 0 || !e.mayCome(k, x) || !e.inTurn(k, x) {
			return false
		}
		last = x.Due
		e.clock.set(x.Due, m)
	}
	_, wanted := e.count()
	return len(timers) == wanted
}

// mayCome tells whether a run has use for a timer, at this time.
func (e *Engine) mayCome(k *kept, x api.Timer) bool {
	if x.Kind == api.TimerDeadline {
		return k.live() && x.Node == 0 && x.Due == k.due()
	}
	state := api.NodeLeased
	if x.Kind == api.TimerWake {
		state = api.NodeBackoff
	}
	if !k.stands(x.Node, state) {
		return false
	}
	n, ticks := k.plan.Nodes[x.Node], x.Due-e.Now()
	switch x.Kind {
	case api.TimerClose:
		return ticks <= n.Close
	case api.TimerBeat:
		return n.Beat != 0 && ticks <= n.Beat
	case api.TimerWake:
		return ticks <= n.Cap+n.Jitter
	}
	return false
}

// inTurn tells whether no timer that stands ahead of this one should stand behind it: at the due a run's deadline comes first, and a close ahead of the beat of its time.
func (e *Engine) inTurn(k *kept, x api.Timer) bool {
	switch {
	case x.Kind == api.TimerDeadline:
		return true
	case x.Due == k.due() && e.clock.at(mark{api.TimerDeadline, k.ref(0)}) == 0:
		return false
	}
	return x.Kind != api.TimerClose || e.clock.at(mark{api.TimerBeat, k.ref(x.Node)}) != x.Due
}

// count tells how many nodes are ready, and how many timers all runs must have.
func (e *Engine) count() (ready, timers int) {
	for _, k := range e.runs {
		if k.live() {
			timers++
		}
		for i, n := range k.plan.Nodes {
			state, _, _ := k.Node(i)
			switch state {
			case api.NodeReady:
				ready++
			case api.NodeLeased:
				timers++
				if n.Beat != 0 {
					timers++
				}
			case api.NodeBackoff:
				timers++
			}
		}
	}
	return ready, timers
}
