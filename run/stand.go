package run

import (
	"slices"

	"escapement/api"
)

// outlook is how a waiting node stands.
type outlook int

const (
	mustWait outlook = iota
	mayBegin
	toSkip
)

// outlookOf is told by the others' states alone, so that it can be asked of a node that does not wait, as if it did.
func (r *Run) outlookOf(node int) outlook {
	n := r.plan.Nodes[node]
	switch {
	case slices.ContainsFunc(n.Needs, func(on int) bool { return r.parts[on].lost() }):
		return toSkip
	case slices.ContainsFunc(n.Needs, func(on int) bool { return !r.parts[on].done() }),
		slices.ContainsFunc(n.After, func(on int) bool { return !r.parts[on].settled() }):
		return mustWait
	}
	return mayBegin
}

func (r *Run) all(are func(x part) bool) bool {
	return !slices.ContainsFunc(r.parts, func(x part) bool { return !are(x) })
}

// mayStand tells whether a run can have come to stand so.
func (r *Run) mayStand() bool {
	for i, x := range r.parts {
		if !x.resultHolds() || !x.attemptsHold(r.plan.Nodes[i].Budget, isStopped(r.status)) {
			return false
		}
	}
	settled, done := r.all(part.settled), r.all(part.done)
	switch r.status {
	case api.RunLive:
		return !settled && r.outlooksHold()
	case api.RunSucceeded:
		return done
	case api.RunFailed:
		return settled && !done && r.outlooksHold()
	}
	return isStopped(r.status) && settled && !done
}

func (x part) resultHolds() bool {
	return len(x.Result) == 0 || x.done() && len(x.Result) <= api.MaxResult
}

func (x part) attemptsHold(budget int, stopped bool) bool {
	switch x.State {
	case api.NodeWaiting, api.NodeSkipped:
		return x.Attempts == 0
	case api.NodeReady:
		return within(x.Attempts, 0, budget-1)
	case api.NodeBackoff:
		return within(x.Attempts, 1, budget-1)
	case api.NodeLeased, api.NodeDone:
		return within(x.Attempts, 1, budget)
	case api.NodeDead:
		return x.Attempts == budget || stopped && within(x.Attempts, 0, budget)
	}
	return false
}

// outlooksHold asks each node whether it has followed the others. Where all are settled none must wait, so that only skips are left to ask for.
func (r *Run) outlooksHold() bool {
	for i, x := range r.parts {
		waits, skipped := x.State == api.NodeWaiting, x.State == api.NodeSkipped
		how := r.outlookOf(i)
		if skipped != (how == toSkip) || waits != (how == mustWait) {
			return false
		}
	}
	return true
}

func isStopped(status int) bool { return status == api.RunCancelled || status == api.RunExpired }

func within(number, least, most int) bool { return number >= least && number <= most }
