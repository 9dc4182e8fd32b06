package engine

import (
	"slices"
	"strings"

	"escapement/api"
	"escapement/run"
)

// kept is a run that is not forgotten, with all that package run does not know of it: times, and who has what.
type kept struct {
	*run.Run
	id        int
	key       string
	plan      api.Plan // the run's, so that a number of it can be read without a copy of all
	submitted int
	ended     int
	leases    []lease // one a node, zero where there is none
}

// lease is whose a leased node is.
type lease struct{ token, worker int }

func keep(r *run.Run, id int, key string, submitted int) *kept {
	p := r.Plan()
	return &kept{Run: r, id: id, key: strings.Clone(key), plan: p, submitted: submitted, leases: make([]lease, len(p.Nodes))}
}

// copy is another one, but of a run that has ended, which turns no more: two engines can look at the same one.
func (k *kept) copy() *kept {
	if !k.live() {
		return k
	}
	c := *k
	c.Run, c.leases = k.Run.Copy(), slices.Clone(k.leases)
	return &c
}

func (k *kept) live() bool { return k.Status() == api.RunLive }

func (k *kept) due() int { return k.submitted + k.plan.Deadline }

// by is the lesser of a time and the run's due.
func (k *kept) by(time int) int { return min(time, k.due()) }

func (k *kept) ref(node int) api.Ref { return api.Ref{Run: k.id, Node: node} }

// stands tells whether there is such a node, in such a state.
func (k *kept) stands(node, state int) bool {
	is, _, code := k.Node(node)
	return code == api.OK && is == state
}

func (k *kept) attempts(node int) int {
	_, attempts, _ := k.Node(node)
	return attempts
}

// state is how the run stands, in memory of its own.
func (k *kept) state() api.RunState {
	s := api.RunState{ID: k.id, Key: strings.Clone(k.key), Plan: k.Plan(), Status: k.Status(), Submitted: k.submitted, Ended: k.ended}
	for i, l := range k.leases {
		state, attempts, _ := k.Node(i)
		result, _ := k.Result(i)
		s.Nodes = append(s.Nodes, api.NodeState{State: state, Attempts: attempts, Token: l.token, Worker: l.worker, Result: result})
	}
	return s
}
