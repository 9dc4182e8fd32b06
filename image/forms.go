package image

import (
	"escapement/api"
	"escapement/codec"
	"escapement/pack"
)

// letter is what every image begins with.
const letter = 'I'

// mostTimers is more than there can be: a deadline of each run, and two timers of each node of a live one.
const mostTimers = 4096

func times() pack.Form[int] { return pack.Numbers(0, api.MaxTime) }

// ids are the numbers of runs.
func ids() pack.Form[int] { return pack.Numbers(1, api.MaxCount) }

// nexts are the numbers that come behind all that were given; behind the last one too.
func nexts() pack.Form[int] { return pack.Numbers(1, api.MaxCount+1) }

// holders are the numbers of tokens and workers; 0 where a node has none.
func holders() pack.Form[int] { return pack.Numbers(0, api.MaxCount) }

// places are the numbers of nodes.
func places() pack.Form[int] { return pack.Numbers(0, api.MaxNodes-1) }

func images() pack.Form[api.State] {
	return whole(
		mark[api.State](letter),
		field(times(), func(s *api.State) *int { return &s.Now }),
		field(pack.Words(), func(s *api.State) *uint64 { return &s.Luck }),
		field(nexts(), func(s *api.State) *int { return &s.NextRun }),
		field(nexts(), func(s *api.State) *int { return &s.NextToken }),
		field(pack.Lists(runs(), api.MaxRuns), func(s *api.State) *[]api.RunState { return &s.Runs }),
		field(pack.Lists(refs(), api.MaxTasks), func(s *api.State) *[]api.Ref { return &s.Ready }),
		field(pack.Lists(timers(), mostTimers), func(s *api.State) *[]api.Timer { return &s.Timers }),
	)
}

func runs() pack.Form[api.RunState] {
	return whole(
		field(ids(), func(r *api.RunState) *int { return &r.ID }),
		field(pack.Texts(api.MaxKey), func(r *api.RunState) *string { return &r.Key }),
		field(codec.Plans(), func(r *api.RunState) *api.Plan { return &r.Plan }),
		field(pack.Numbers(api.RunLive, api.RunExpired), func(r *api.RunState) *int { return &r.Status }),
		field(times(), func(r *api.RunState) *int { return &r.Submitted }),
		field(times(), func(r *api.RunState) *int { return &r.Ended }),
		field(pack.Lists(nodes(), api.MaxNodes), func(r *api.RunState) *[]api.NodeState { return &r.Nodes }),
	)
}

func nodes() pack.Form[api.NodeState] {
	return whole(
		field(pack.Numbers(api.NodeWaiting, api.NodeSkipped), func(n *api.NodeState) *int { return &n.State }),
		field(pack.Numbers(0, api.MaxBudget), func(n *api.NodeState) *int { return &n.Attempts }),
		field(holders(), func(n *api.NodeState) *int { return &n.Token }),
		field(holders(), func(n *api.NodeState) *int { return &n.Worker }),
		field(pack.Blobs(api.MaxResult), func(n *api.NodeState) *[]byte { return &n.Result }),
	)
}

func refs() pack.Form[api.Ref] {
	return whole(
		field(ids(), func(r *api.Ref) *int { return &r.Run }),
		field(places(), func(r *api.Ref) *int { return &r.Node }),
	)
}

func timers() pack.Form[api.Timer] {
	return whole(
		field(times(), func(x *api.Timer) *int { return &x.Due }),
		field(pack.Numbers(api.TimerDeadline, api.TimerWake), func(x *api.Timer) *int { return &x.Kind }),
		field(ids(), func(x *api.Timer) *int { return &x.Run }),
		field(places(), func(x *api.Timer) *int { return &x.Node }),
	)
}
