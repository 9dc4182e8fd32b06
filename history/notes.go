package history

import (
	"escapement/api"
	"escapement/pace"
)

// What may come now: each of these holds a note against the one that it must be, whole, so that a field that its kind does not use is 0 too; only if it is that one does anything change.

// take follows a note, if it may come now.
func (b *Book) take(n api.Note) bool {
	switch {
	case !b.begun():
		return b.begin(n)
	case len(b.owed) > 0:
		return b.settle(n)
	case b.run.Status() != api.RunLive:
		return b.forget(n)
	}
	first := b.first()
	switch {
	case n.Time < b.last.Time || n.Time > first.Due:
		return false
	case n.Time == first.Due:
		return b.come(n, first)
	}
	return b.step(n)
}

// begin takes the first note. (A time that is too great is refused ahead of the sum, which might run over.)
func (b *Book) begin(n api.Note) bool {
	if n.Time < 0 || n.Time > api.MaxTime-b.plan.Deadline {
		return false
	}
	due := n.Time + b.plan.Deadline
	if n != (api.Note{Kind: api.NoteSubmitted, Time: n.Time, Run: b.id, Due: due}) {
		return false
	}
	b.submitted, b.due = n.Time, due
	b.set(due, api.TimerDeadline, 0)
	b.follow(n.Time, b.start, 0)
	return true
}

// settle takes a note that is owed.
func (b *Book) settle(n api.Note) bool {
	if !b.owed[0].takes(n) {
		return false
	}
	b.owed = b.owed[1:]
	if n.Kind == api.NoteBackoff {
		b.set(n.Due, api.TimerWake, n.Node)
	}
	return true
}

// forget takes the last note of all.
func (b *Book) forget(n api.Note) bool {
	return n.Time >= b.last.Time && n.Time <= api.MaxTime && n == api.Note{Kind: api.NoteForgotten, Time: n.Time, Run: b.id}
}

// come takes the first note that a timer brings.
func (b *Book) come(n api.Note, t api.Timer) bool {
	switch t.Kind {
	case api.TimerDeadline:
		return b.stop(n, api.RunExpired, api.WhyDeadline)
	case api.TimerClose:
		return b.fail(n, t.Node, api.WhyClosed)
	case api.TimerBeat:
		return b.fail(n, t.Node, api.WhyBeat)
	}
	return b.wake(n, t.Node)
}

// step takes what comes ahead of all timers.
func (b *Book) step(n api.Note) bool {
	switch n.Kind {
	case api.NoteLeased:
		return b.lease(n)
	case api.NoteBeaten:
		return b.beat(n)
	case api.NoteDone:
		return b.finish(n)
	case api.NoteFailed:
		return b.fail(n, n.Node, api.WhyTold)
	case api.NoteDead:
		return b.stop(n, api.RunCancelled, api.WhyCancelled)
	}
	return false
}

func (b *Book) lease(n api.Note) bool {
	attempts, ok := b.stands(n.Node, api.NodeReady)
	if !ok || n.Token <= b.token || n.Token > api.MaxCount {
		return false
	}
	node := b.plan.Nodes[n.Node]
	due := b.by(n.Time + node.Close)
	if n != (api.Note{Kind: api.NoteLeased, Time: n.Time, Run: b.id, Node: n.Node, Attempt: attempts + 1, Token: n.Token, Due: due}) {
		return false
	}
	b.run.Lease(n.Node)
	b.tokens[n.Node], b.token = n.Token, n.Token
	b.set(due, api.TimerClose, n.Node)
	if node.Beat > 0 {
		b.set(b.by(n.Time+node.Beat), api.TimerBeat, n.Node)
	}
	return true
}

func (b *Book) beat(n api.Note) bool {
	attempt, ok := b.stands(n.Node, api.NodeLeased)
	if !ok || b.plan.Nodes[n.Node].Beat == 0 {
		return false
	}
	due := b.by(n.Time + b.plan.Nodes[n.Node].Beat)
	if n != (api.Note{Kind: api.NoteBeaten, Time: n.Time, Run: b.id, Node: n.Node, Attempt: attempt, Token: b.tokens[n.Node], Due: due}) {
		return false
	}
	b.drop(n.Node, api.TimerBeat)
	b.set(due, api.TimerBeat, n.Node)
	return true
}

func (b *Book) finish(n api.Note) bool {
	attempt, ok := b.stands(n.Node, api.NodeLeased)
	if !ok || n != (api.Note{Kind: api.NoteDone, Time: n.Time, Run: b.id, Node: n.Node, Attempt: attempt}) {
		return false
	}
	b.release(n.Node)
	change, _ := b.run.Finish(n.Node, nil)
	b.follow(n.Time, change, 0)
	return true
}

// fail takes the note of an attempt of this node that fails for this reason.
func (b *Book) fail(n api.Note, node, why int) bool {
	attempt, ok := b.stands(node, api.NodeLeased)
	if !ok || n != (api.Note{Kind: api.NoteFailed, Time: n.Time, Run: b.id, Node: node, Attempt: attempt, Why: why}) {
		return false
	}
	b.release(node)
	change, _ := b.run.Miss(node)
	if _, ok := b.stands(node, api.NodeBackoff); ok {
		x := b.plan.Nodes[node]
		delay, _ := pace.Delay(x.Base, x.Cap, attempt)
		soonest := api.Note{Kind: api.NoteBackoff, Time: n.Time, Run: b.id, Node: node, Attempt: attempt, Due: b.by(n.Time + delay)}
		b.owed = append(b.owed, debt{soonest, b.by(n.Time + delay + x.Jitter)})
	}
	b.follow(n.Time, change, api.WhyBudget)
	return true
}

// wake takes the note of a node whose backoff ends: a wake brings no other one.
func (b *Book) wake(n api.Note, node int) bool {
	if n != (api.Note{Kind: api.NoteReady, Time: n.Time, Run: b.id, Node: node}) {
		return false
	}
	b.drop(node, api.TimerWake)
	b.run.Wake(node)
	return true
}

// stop takes the first note of a run that is stopped.
func (b *Book) stop(n api.Note, status, why int) bool {
	next := b.run.Copy() // the step tells its notes, and must not have been done if n is another one
	change, _ := next.Stop(status)
	if n != b.brought(n.Time, change, why)[0] {
		return false
	}
	b.run = next
	b.follow(n.Time, change, why)
	b.owed = b.owed[1:]
	return true
}
