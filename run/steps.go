package run

import (
	"bytes"

	"escapement/api"
)

// Lease hands a node out; the answer is which attempt begins.
func (r *Run) Lease(node int) (int, api.Errno) {
	if code := r.refuses(node, api.NodeReady); code != api.OK {
		return 0, code
	}
	x := &r.parts[node]
	x.State = api.NodeLeased
	x.Attempts++
	return x.Attempts, api.OK
}

// Finish lets an attempt end well.
func (r *Run) Finish(node int, result []byte) (api.Change, api.Errno) {
	if r.has(node) && len(result) > api.MaxResult {
		return api.Change{}, api.ErrArg
	}
	if code := r.refuses(node, api.NodeLeased); code != api.OK {
		return api.Change{}, code
	}
	x := &r.parts[node]
	x.State, x.Result = api.NodeDone, bytes.Clone(result)
	return r.settleOn(api.Change{}), api.OK
}

// Miss lets an attempt fail.
func (r *Run) Miss(node int) (api.Change, api.Errno) {
	if code := r.refuses(node, api.NodeLeased); code != api.OK {
		return api.Change{}, code
	}
	var change api.Change
	x := &r.parts[node]
	x.State = api.NodeBackoff
	if x.Attempts == r.plan.Nodes[node].Budget {
		x.State = api.NodeDead
		change.Dead = []int{node}
	}
	return r.settleOn(change), api.OK
}

// Wake lets a backoff end. Nothing is settled by it, so that no other node can be ready behind it.
func (r *Run) Wake(node int) (api.Change, api.Errno) {
	if code := r.refuses(node, api.NodeBackoff); code != api.OK {
		return api.Change{}, code
	}
	r.parts[node].State = api.NodeReady
	return r.settleOn(api.Change{Ready: []int{node}}), api.OK
}

// Stop ends the run, whatever is under way.
func (r *Run) Stop(status int) (api.Change, api.Errno) {
	switch {
	case !isStopped(status):
		return api.Change{}, api.ErrArg
	case r.status != api.RunLive:
		return api.Change{}, api.ErrRunState
	}
	r.status = status
	change := api.Change{Status: status}
	for i := range r.parts {
		x := &r.parts[i]
		switch {
		case x.settled():
		case x.State == api.NodeWaiting:
			x.State = api.NodeSkipped
			change.Skipped = append(change.Skipped, i)
		default:
			x.State = api.NodeDead
			change.Dead = append(change.Dead, i)
		}
	}
	return change, api.OK
}

// settleOn lets waiting nodes follow what has come of others, and the run end if all are settled; the change tells that too then.
func (r *Run) settleOn(change api.Change) api.Change {
	change.Skipped = r.turn(toSkip, api.NodeSkipped)
	change.Ready = append(change.Ready, r.turn(mayBegin, api.NodeReady)...)
	if r.all(part.settled) {
		r.status = api.RunFailed
		if r.all(part.done) {
			r.status = api.RunSucceeded
		}
	}
	change.Status = r.status
	return change
}

// turn gives a state to the waiting nodes that stand so, and tells them in order. It looks for the least one anew each time, since a node that is skipped may let a lesser one follow.
func (r *Run) turn(how outlook, state int) []int {
	var turned []int
	for node, ok := r.least(how); ok; node, ok = r.least(how) {
		r.parts[node].State = state
		turned = append(turned, node)
	}
	return turned
}

func (r *Run) least(how outlook) (int, bool) {
	for i, x := range r.parts {
		if x.State == api.NodeWaiting && r.outlookOf(i) == how {
			return i, true
		}
	}
	return 0, false
}
