package codec

import (
	"escapement/api"
	"escapement/pack"
)

func names() pack.Form[string] { return pack.Texts(api.MaxName) }

func lanes() pack.Form[int] { return pack.Numbers(0, api.MaxLanes-1) }

// planFields is the form of a plan's fields, without a look at whether the plan may be.
func planFields() pack.Form[api.Plan] {
	name, deadline, nodes := names(), pack.Numbers(1, api.MaxDelay), pack.Lists(nodeFields(), api.MaxNodes)
	put := func(w *pack.Writer, p api.Plan) {
		name.Put(w, p.Name)
		deadline.Put(w, p.Deadline)
		nodes.Put(w, p.Nodes)
	}
	take := func(r *pack.Reader) api.Plan {
		var p api.Plan
		p.Name = name.Take(r)
		p.Deadline = deadline.Take(r)
		p.Nodes = nodes.Take(r)
		return p
	}
	return pack.Make(put, take)
}

func nodeFields() pack.Form[api.Node] {
	name, lane, budget := names(), lanes(), pack.Numbers(1, api.MaxBudget)
	span, delay := pack.Numbers(1, api.MaxDelay), pack.Numbers(0, api.MaxDelay)
	edges := pack.Lists(pack.Numbers(0, api.MaxNodes-1), api.MaxNodes)
	put := func(w *pack.Writer, n api.Node) {
		name.Put(w, n.Name)
		lane.Put(w, n.Lane)
		budget.Put(w, n.Budget)
		span.Put(w, n.Close)
		delay.Put(w, n.Beat)
		span.Put(w, n.Base)
		span.Put(w, n.Cap)
		delay.Put(w, n.Jitter)
		edges.Put(w, n.Needs)
		edges.Put(w, n.After)
	}
	take := func(r *pack.Reader) api.Node {
		var n api.Node
		n.Name = name.Take(r)
		n.Lane = lane.Take(r)
		n.Budget = budget.Take(r)
		n.Close = span.Take(r)
		n.Beat = delay.Take(r)
		n.Base = span.Take(r)
		n.Cap = span.Take(r)
		n.Jitter = delay.Take(r)
		n.Needs = edges.Take(r)
		n.After = edges.Take(r)
		return n
	}
	return pack.Make(put, take)
}
