package engine

import (
	"escapement/api"
	"escapement/pace"
)

// note writes down what has happened to a run, at the clock.
func (t *turn) note(k *kept, n api.Note) {
	n.Time, n.Run = t.Now(), k.id
	t.answer.Notes = append(t.answer.Notes, n)
}

// setBy makes a timer so many ticks from now, or at the run's due, if that is sooner; its time.
func (t *turn) setBy(k *kept, node, kind, ticks int) int {
	due := k.by(t.Now() + ticks)
	t.clock.set(due, mark{kind, k.ref(node)})
	return due
}

// fail lets an attempt fail.
func (t *turn) fail(k *kept, node, why int) {
	t.clock.dropNode(k.ref(node))
	t.release(k, node)
	attempts := k.attempts(node)
	t.note(k, api.Note{Kind: api.NoteFailed, Node: node, Attempt: attempts, Why: why})
	change, _ := k.Miss(node)
	if k.stands(node, api.NodeBackoff) {
		wait, _ := pace.Wait(k.plan.Nodes[node], t.luck, k.id, node, attempts)
		due := t.setBy(k, node, api.TimerWake, wait)
		t.note(k, api.Note{Kind: api.NoteBackoff, Node: node, Attempt: attempts, Due: due})
	}
	t.change(k, change, api.WhyBudget)
}

// change follows what package run tells: why is that of the dead.
func (t *turn) change(k *kept, c api.Change, why int) {
	for _, node := range c.Dead {
		t.note(k, api.Note{Kind: api.NoteDead, Node: node, Attempt: k.attempts(node), Why: why})
	}
	for _, node := range c.Skipped {
		t.note(k, api.Note{Kind: api.NoteSkipped, Node: node})
	}
	for _, node := range c.Ready {
		t.queues[k.plan.Nodes[node].Lane].Push(k.ref(node))
		t.note(k, api.Note{Kind: api.NoteReady, Node: node})
	}
	if c.Status != api.RunLive {
		t.clock.dropRun(k)
		t.tasks -= len(k.leases)
		k.ended = t.Now()
		t.note(k, api.Note{Kind: api.NoteEnded, Why: c.Status})
	}
}

// stop ends a run, whatever is under way.
func (t *turn) stop(k *kept, status, why int) {
	t.clock.dropRun(k)
	for node, n := range k.plan.Nodes {
		t.queues[n.Lane].Remove(k.ref(node))
		t.release(k, node)
	}
	change, _ := k.Stop(status)
	t.change(k, change, why)
}

// handle does what a timer has come for.
func (t *turn) handle(m mark) {
	k, _ := t.find(m.Run)
	switch m.kind {
	case api.TimerDeadline:
		t.stop(k, api.RunExpired, api.WhyDeadline)
	case api.TimerClose:
		t.fail(k, m.Node, api.WhyClosed)
	case api.TimerBeat:
		t.fail(k, m.Node, api.WhyBeat)
	case api.TimerWake:
		change, _ := k.Wake(m.Node)
		t.change(k, change, 0)
	}
}

// hand notes whose a leased node is.
func (e *Engine) hand(k *kept, node int, l lease) {
	k.leases[node] = l
	e.leases[l.token] = k.ref(node)
}

// release takes a node's lease away, if it has one.
func (e *Engine) release(k *kept, node int) {
	delete(e.leases, k.leases[node].token)
	k.leases[node] = lease{}
}
