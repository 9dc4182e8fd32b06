package engine

import (
	"fmt"
	"math"
	"math/rand"
	"slices"
	"strings"
	"testing"

	"escapement/api"
)

// P14.8: which states may be: each of the conditions broken alone, and at its edge; states by chance; and what is taken goes on.

// ended has a run of each status but RunLive: all were submitted at 10 and due at 60; it is 100.
func ended() api.State {
	s := api.State{Now: 100, NextRun: 10, NextToken: 7}
	p := until(line(), 50)
	node := func(state, attempts int) api.NodeState { return api.NodeState{State: state, Attempts: attempts} }
	for i, nodes := range [][]api.NodeState{{node(5, 1), node(5, 2)}, {node(6, 2), node(7, 0)}, {node(5, 2), node(6, 0)}, {node(6, 1), node(7, 0)}} {
		s.Runs = append(s.Runs, api.RunState{ID: 2 * (i + 1), Key: fmt.Sprint("key", i), Plan: planOf(p), Status: i + 2, Submitted: 10, Ended: []int{30, 40, 50, 60}[i], Nodes: nodes})
	}
	return s
}

// open has a live run with a node in each state, and a few more: it was submitted at 10 and is due at 60; it is 20.
func open() api.State {
	p := until(of(node("done", nil, nil), node("dead", nil, nil), node("skipped", list(1), nil), node("ready", nil, nil), node("leased", nil, nil), node("backoff", nil, nil), node("waiting", list(3), nil), node("beats", nil, nil), node("far", nil, nil), node("high", nil, nil)), 50)
	for i := range p.Nodes {
		n := &p.Nodes[i]
		n.Close, n.Base, n.Cap, n.Jitter = 15, 3, 10, 5
	}
	p.Nodes[7].Beat = 12
	p.Nodes[8].Close, p.Nodes[8].Beat, p.Nodes[9].Lane = 1<<40, 1<<40, 2
	states := []api.NodeState{{State: 5, Attempts: 1, Result: []byte("r")}, {State: 6, Attempts: 2}, {State: 7}, {State: 2, Attempts: 1}, {State: 3, Attempts: 1, Token: 3, Worker: 9}, {State: 4, Attempts: 1}, {State: 1}, {State: 3, Attempts: 2, Token: 6}, {State: 3, Attempts: 1, Token: 1, Worker: 9}, {State: 2}}
	return api.State{Now: 20, NextRun: 10, NextToken: 7, Runs: []api.RunState{{ID: 5, Key: "open", Plan: p, Status: 1, Submitted: 10, Nodes: states}},
		Ready:  []api.Ref{{Run: 5, Node: 3}, {Run: 5, Node: 9}},
		Timers: []api.Timer{{Due: 25, Kind: 4, Run: 5, Node: 5}, {Due: 26, Kind: 3, Run: 5, Node: 7}, {Due: 27, Kind: 2, Run: 5, Node: 4}, {Due: 28, Kind: 2, Run: 5, Node: 7}, {Due: 60, Kind: 1, Run: 5}, {Due: 60, Kind: 2, Run: 5, Node: 8}, {Due: 60, Kind: 3, Run: 5, Node: 8}}}
}

// crowd has so many live runs of 64 nodes that are ready, and one more of so many.
func crowd(runs, more int) api.State {
	s := api.State{NextRun: 300, NextToken: 1}
	for i := range runs + 1 {
		nodes := 64
		if i == runs {
			nodes = more
		}
		if nodes == 0 {
			break
		}
		r := api.RunState{ID: i + 1, Plan: plain(nodes), Status: 1, Nodes: make([]api.NodeState, nodes)}
		for node := range nodes {
			r.Nodes[node].State = 2
			s.Ready = append(s.Ready, api.Ref{Run: r.ID, Node: node})
		}
		s.Runs = append(s.Runs, r)
		s.Timers = append(s.Timers, api.Timer{Due: 100, Kind: 1, Run: r.ID})
	}
	return s
}

func many(runs int) api.State {
	s := api.State{NextRun: 300, NextToken: 1}
	for id := range runs {
		s.Runs = append(s.Runs, endedRun(id+1))
	}
	return s
}

// atEnd has a live run whose due is the last time, and one that has ended.
func atEnd() api.State {
	s := many(1)
	s.Now = 1<<62 - 50
	s.Runs[0].Submitted, s.Runs[0].Ended, s.Runs[0].Plan.Deadline = s.Now, s.Now, 50
	s.Runs = append(s.Runs, api.RunState{ID: 2, Plan: until(plain(1), 50), Status: 1, Submitted: s.Now, Nodes: []api.NodeState{{State: 2}}})
	s.Ready, s.Timers = []api.Ref{{Run: 2}}, []api.Timer{{Due: 1 << 62, Kind: 1, Run: 2}}
	return s
}

func single() api.State { return many(1) }

func nothing() api.State { return api.State{NextRun: 1, NextToken: 1} }

// turned is a state that was turned in one thing; breaks names the conditions that do not hold then, none if it may be.
type turned struct {
	base   func() api.State
	turn   func(s *api.State)
	breaks string
}

// sorted lays the timers in the order of their times again.
func sorted(s *api.State) {
	slices.SortStableFunc(s.Timers, func(a, b api.Timer) int {
		switch {
		case a.Due < b.Due:
			return -1
		case a.Due > b.Due:
			return 1
		}
		return 0
	})
}

func numbersTurned() []turned {
	list := []turned{{nothing, func(s *api.State) {}, ""}, {ended, func(s *api.State) {}, ""}, {open, func(s *api.State) {}, ""}, {atEnd, func(s *api.State) {}, ""}}
	breaks := func(may bool, what string) string {
		if may {
			return ""
		}
		return what
	}
	for _, n := range strange() {
		list = append(list,
			turned{nothing, func(s *api.State) { s.Now = n }, breaks(n >= 0 && n <= 1<<62, "1 Now")},
			turned{nothing, func(s *api.State) { s.NextRun = n }, breaks(n >= 1 && n <= 1<<40+1, "1 NextRun")},
			turned{nothing, func(s *api.State) { s.NextToken = n }, breaks(n >= 1 && n <= 1<<40+1, "1 NextToken")},
			turned{open, func(s *api.State) { s.Luck = uint64(n) }, ""},
			turned{open, func(s *api.State) { s.Runs[0].Ended = n }, breaks(n == 0, "3 live: Ended 0")},
			turned{open, func(s *api.State) { s.Runs[0].Nodes[4].Token = n }, map[bool]string{true: breaks(n != 1 && n != 6, "4 tokens"), false: "4 token"}[n >= 1 && n < 7]},
			turned{open, func(s *api.State) { s.Runs[0].Nodes[4].Worker = n }, breaks(n >= 0 && n <= 1<<40, "4 worker")},
			turned{single, func(s *api.State) { s.Runs[0].ID = n }, breaks(n >= 1 && n < 300, "2 ID")},
			turned{ended, func(s *api.State) { s.Runs[2].Submitted, s.Runs[2].Ended = n, n }, breakSubmitted(n)},
		)
		for i := range 10 {
			if i != 4 && i < 7 || i == 9 {
				list = append(list, turned{open, func(s *api.State) { s.Runs[0].Nodes[i].Token = n }, breaks(n == 0, "4 no token")},
					turned{open, func(s *api.State) { s.Runs[0].Nodes[i].Worker = n }, breaks(n == 0, "4 no worker")})
			}
		}
		for i := range 4 {
			list = append(list, turned{ended, func(s *api.State) { s.Runs[i].Nodes[i%2].Token = n }, breaks(n == 0, "4 no token")},
				turned{ended, func(s *api.State) { s.Runs[i].Nodes[i%2].Worker = n }, breaks(n == 0, "4 no worker")})
		}
	}
	return list
}

func runsTurned() []turned {
	return []turned{
		{func() api.State { return many(256) }, func(s *api.State) {}, ""},
		{func() api.State { return many(257) }, func(s *api.State) {}, "2 runs"},
		{ended, func(s *api.State) { s.Runs[1], s.Runs[2] = s.Runs[2], s.Runs[1] }, "2 rising"},
		{ended, func(s *api.State) { s.Runs[2].ID = 4 }, "2 rising"},
		{ended, func(s *api.State) { s.Runs[2].ID = 5 }, ""},
		{ended, func(s *api.State) { s.Runs[3].ID = 9 }, ""},
		{ended, func(s *api.State) { s.Runs[3].ID = 10 }, "2 ID"},
		{ended, func(s *api.State) { s.Runs[0].ID = 1 }, ""},
		{ended, func(s *api.State) { s.Runs[0].ID = 0 }, "2 ID"},
		{ended, func(s *api.State) { s.NextRun = 9 }, ""},
		{ended, func(s *api.State) { s.NextRun = 8 }, "2 ID"},
		{ended, func(s *api.State) { s.Runs[1].Key = strings.Repeat("k", 40) }, ""},
		{ended, func(s *api.State) { s.Runs[1].Key = strings.Repeat("k", 41) }, "2 key"},
		{ended, func(s *api.State) { s.Runs[1].Key = strings.Repeat("k", 1<<16) }, "2 key"},
		{ended, func(s *api.State) { s.Runs[1].Key = "key3" }, "2 keys"},
		{ended, func(s *api.State) { s.Runs[3].Key = "key0" }, "2 keys"},
		{ended, func(s *api.State) { s.Runs[1].Key, s.Runs[2].Key, s.Runs[3].Key = "", "", "" }, ""},
		{ended, func(s *api.State) { s.Runs[1].Key = "key3\x00" }, ""},
		{ended, func(s *api.State) { s.Runs[0].Status = 0 }, "3 run.From"},
		{ended, func(s *api.State) { s.Runs[0].Status = 6 }, "3 run.From"},
		{ended, func(s *api.State) { s.Runs[0].Status = 3 }, "3 run.From"},
		{ended, func(s *api.State) { s.Runs[2].Status = 3 }, "3 run.From"},
		{ended, func(s *api.State) { s.Runs[1].Status = 4 }, ""},
		{ended, func(s *api.State) { s.Runs[0].Nodes[1].Attempts = 3 }, "3 run.From"},
		{ended, func(s *api.State) { s.Runs[0].Nodes[0].Attempts = 0 }, "3 run.From"},
		{ended, func(s *api.State) { s.Runs[0].Nodes = s.Runs[0].Nodes[:1] }, "3 run.From"},
		{ended, func(s *api.State) { s.Runs[0].Nodes = append(s.Runs[0].Nodes, api.NodeState{State: 5, Attempts: 1}) }, "3 run.From"},
		{ended, func(s *api.State) { s.Runs[0].Nodes = nil }, "3 run.From"},
		{ended, func(s *api.State) { s.Runs[0].Nodes[1].Result = make([]byte, 64) }, ""},
		{ended, func(s *api.State) { s.Runs[0].Nodes[1].Result = make([]byte, 65) }, "3 run.From"},
		{ended, func(s *api.State) { s.Runs[1].Nodes[0].Result = make([]byte, 1) }, "3 run.From"},
		{ended, func(s *api.State) { s.Runs[0].Plan.Name = "" }, "3 run.From"},
		{ended, func(s *api.State) { s.Runs[0].Plan.Nodes[1].Name = "a" }, "3 run.From"},
		{ended, func(s *api.State) { s.Runs[0].Plan.Nodes[0].Needs = list(1) }, "3 run.From"},
		{ended, func(s *api.State) { s.Runs[0].Plan.Deadline = 1<<40 + 1 }, "3 run.From"},
		{open, func(s *api.State) { s.Runs[0].Nodes[0].Attempts = 3 }, "3 run.From"},
		{open, func(s *api.State) { s.Runs[0].Nodes[6].Attempts = 1 }, "3 run.From"},
		{open, func(s *api.State) { s.Runs[0].Plan.Nodes[6].Needs = nil }, "3 run.From"},
		{open, func(s *api.State) { s.Runs[0].Plan.Nodes[3].Lane = 16; s.Ready[0], s.Ready[1] = s.Ready[1], s.Ready[0] }, "3 run.From"},
		{func() api.State { return crowd(16, 0) }, func(s *api.State) {}, ""},
		{func() api.State { return crowd(15, 64) }, func(s *api.State) {}, ""},
		{func() api.State { return crowd(16, 1) }, func(s *api.State) {}, "5 tasks"},
		{func() api.State { return crowd(17, 3) }, func(s *api.State) {}, "5 tasks"},
	}
}

func timesTurned() []turned {
	submitted := func(n int) func(s *api.State) {
		return func(s *api.State) { // and its deadline with it
			s.Runs[0].Submitted = n
			s.Runs[0].Plan.Deadline = 60 - n
		}
	}
	late := func(deadline int) func(s *api.State) {
		return func(s *api.State) {
			s.Runs[1].Plan.Deadline = deadline
			s.Timers[0].Due = s.Runs[1].Submitted + deadline
		}
	}
	now := func(n int) func(s *api.State) { return func(s *api.State) { s.Now = n } }
	return []turned{
		{open, submitted(0), ""},
		{open, submitted(-1), "3 submitted"},
		{open, submitted(20), ""},
		{open, submitted(21), "3 submitted"},
		{ended, func(s *api.State) { s.Runs[0].Submitted, s.Runs[0].Ended = -1, 0 }, "3 submitted"},
		{atEnd, late(51), "3 due"},
		{atEnd, late(49), ""},
		{atEnd, late(1 << 40), "3 due"},
		{atEnd, func(s *api.State) { s.Runs[0].Plan.Deadline = 51 }, "3 due"},
		{atEnd, func(s *api.State) { s.Runs[0].Plan.Deadline = 1 << 40 }, "3 due"},
		{atEnd, now(1<<62 - 1), ""},
		{atEnd, now(1 << 62), "3 live: due above Now, 7 above Now"},
		{atEnd, func(s *api.State) { s.Now, s.Timers = 1<<62, nil }, "3 live: due above Now, 7 one deadline"},
		{ended, func(s *api.State) { s.Runs[1].Ended = 10 }, ""},
		{ended, func(s *api.State) { s.Runs[1].Ended = 9 }, "3 ended: not below Submitted"},
		{ended, func(s *api.State) { s.Runs[1].Ended = 0 }, "3 ended: not below Submitted"},
		{ended, func(s *api.State) { s.Runs[1].Ended = math.MinInt }, "3 ended: not below Submitted"},
		{ended, func(s *api.State) { s.Runs[1].Ended = 59 }, ""},
		{ended, func(s *api.State) { s.Runs[1].Ended = 60 }, "3 ended: below the due"},
		{ended, func(s *api.State) { s.Runs[0].Ended = 60 }, "3 ended: below the due"},
		{ended, func(s *api.State) { s.Runs[2].Ended = 61 }, "3 ended: below the due"},
		{ended, func(s *api.State) { s.Runs[3].Ended = 59 }, "3 ended: just the due"},
		{ended, func(s *api.State) { s.Runs[3].Ended = 61 }, "3 ended: just the due"},
		{ended, now(60), ""},
		{ended, now(59), "3 ended: not above Now"},
		{ended, func(s *api.State) { s.Now, s.Runs[3].Status = 60, 4 }, "3 ended: below the due"},
		{ended, func(s *api.State) { s.Now, s.Runs = 50, s.Runs[:3] }, ""},
		{ended, func(s *api.State) { s.Now, s.Runs = 49, s.Runs[:3] }, "3 ended: not above Now"},
	}
}

func breakSubmitted(n int) string {
	switch {
	case n < 0 || n > 100 && n <= 1<<62-50:
		if n > 100 {
			return "3 submitted, 3 ended: not above Now"
		}
		return "3 submitted"
	case n > 100:
		return "3 submitted, 3 due, 3 ended: not above Now"
	}
	return ""
}

func readyTurned() []turned {
	add := func(run, node int) func(s *api.State) {
		return func(s *api.State) { s.Ready = append(s.Ready, api.Ref{Run: run, Node: node}) }
	}
	two := func() api.State { return crowd(2, 0) }
	l := []turned{
		{open, add(5, 9), "6 once"},
		{two, add(1, 0), "6 once"},
		{two, func(s *api.State) { s.Ready[7] = s.Ready[6] }, "6 once, 6 all"},
		{two, func(s *api.State) { slices.Reverse(s.Ready) }, ""},
		{two, func(s *api.State) { s.Ready = s.Ready[1:] }, "6 all"},
		{two, func(s *api.State) { s.Ready = s.Ready[:127] }, "6 all"},
		{two, func(s *api.State) { s.Ready = nil }, "6 all"},
		{two, func(s *api.State) { s.Runs[1].Plan.Nodes[63].Lane = 15 }, ""},
		{two, func(s *api.State) { s.Runs[0].Plan.Nodes[63].Lane = 1 }, "6 lanes"},
		{two, func(s *api.State) { s.Runs[1].Plan.Nodes[62].Lane = 15 }, "6 lanes"},
		{open, func(s *api.State) { s.Ready[0], s.Ready[1] = s.Ready[1], s.Ready[0] }, "6 lanes"},
		{nothing, add(1, 0), "6 ready nodes"},
		{ended, add(2, 0), "6 ready nodes"},
	}
	for node := range 9 {
		if node != 3 {
			l = append(l, turned{open, add(5, node), "6 ready nodes"})
		}
	}
	for _, n := range strange() {
		if n != 5 {
			l = append(l, turned{open, add(n, 9), "6 ready nodes"})
		}
		if n < 0 || n > 9 {
			l = append(l, turned{open, add(5, n), "6 ready nodes"})
		}
	}
	return l
}

func timersTurned() []turned {
	due := func(place, time int) func(s *api.State) {
		return func(s *api.State) {
			s.Timers[place].Due = time
			sorted(s)
		}
	}
	add := func(due, kind, run, node int) func(s *api.State) {
		return func(s *api.State) {
			s.Timers = append(s.Timers, api.Timer{Due: due, Kind: kind, Run: run, Node: node})
			sorted(s)
		}
	}
	drop := func(place int) func(s *api.State) {
		return func(s *api.State) { s.Timers = slices.Delete(s.Timers, place, place+1) }
	}
	swap := func(a, b int) func(s *api.State) {
		return func(s *api.State) { s.Timers[a], s.Timers[b] = s.Timers[b], s.Timers[a] }
	}
	// one has all timers of its node 7, and one of another node, at one time, ahead of the due.
	one := func() api.State {
		s := open()
		for i := range 4 {
			s.Timers[i].Due = 28
		}
		s.Timers[1], s.Timers[3] = s.Timers[3], s.Timers[1]
		return s
	}
	// last has all timers at the due.
	last := func() api.State {
		s := open()
		for i := range s.Runs[0].Plan.Nodes {
			n := &s.Runs[0].Plan.Nodes[i]
			n.Close, n.Beat, n.Cap = 100, min(n.Beat, 1)*100, 100
		}
		s.Timers = []api.Timer{s.Timers[4], s.Timers[0], s.Timers[2], s.Timers[3], s.Timers[1], s.Timers[5], s.Timers[6]}
		for i := range s.Timers {
			s.Timers[i].Due = 60
		}
		return s
	}
	l := []turned{
		{one, func(s *api.State) {}, ""}, {last, func(s *api.State) {}, ""},
		{open, swap(0, 1), "7 rising"}, {open, swap(3, 4), "7 rising"}, {open, swap(1, 3), "7 rising"},
		{open, due(0, 21), ""}, {open, due(0, 20), "7 above Now"}, {open, due(0, 0), "7 above Now"}, {open, due(0, math.MinInt), "7 above Now"}, {open, due(1, 20), "7 above Now"}, {open, due(2, 20), "7 above Now"},
		{open, due(0, 35), ""}, {open, due(0, 36), "7 wake's time"},
		{open, due(1, 32), ""}, {open, due(1, 33), "7 beat's time"},
		{open, due(2, 35), ""}, {open, due(2, 36), "7 close's time"},
		{open, due(4, 59), "7 deadline's time"}, {open, due(4, 21), "7 deadline's time"}, {open, due(4, 61), "7 not above the due, 7 deadline's time"},
		{open, due(5, 59), ""}, {open, due(5, 61), "7 not above the due"}, {open, due(6, 61), "7 not above the due"}, {open, due(6, 21), ""}, {open, due(6, math.MaxInt), "7 not above the due, 7 beat's time"},
		{last, due(1, 61), "7 not above the due"}, {last, due(1, 59), ""},
		{open, drop(0), "7 one wake"}, {open, drop(1), "7 one beat"}, {open, drop(2), "7 one close"}, {open, drop(3), "7 one close"}, {open, drop(4), "7 one deadline"}, {open, drop(6), "7 one beat"},
		{open, add(25, 4, 5, 5), "7 one wake"}, {open, add(24, 4, 5, 5), "7 one wake"}, {open, add(27, 3, 5, 7), "7 one beat"}, {open, add(27, 2, 5, 4), "7 one close"}, {open, add(60, 2, 5, 8), "7 one close, 7 close ahead"}, {atEnd, add(1<<62, 1, 2, 0), "7 one deadline"},
		{open, func(s *api.State) { s.Timers = nil }, "7 one deadline, 7 one close, 7 one wake, 7 one beat"},
		{open, swap(4, 5), "7 deadline ahead"}, {open, swap(4, 6), "7 deadline ahead, 7 close ahead"}, {open, swap(5, 6), "7 close ahead"},
		{one, swap(1, 3), "7 close ahead"}, {one, swap(0, 2), ""}, {one, swap(0, 1), ""}, {one, swap(2, 3), ""},
		{last, swap(0, 1), "7 deadline ahead"}, {last, swap(0, 6), "7 deadline ahead, 7 close ahead"}, {last, swap(3, 4), "7 close ahead"}, {last, swap(4, 5), ""}, {last, swap(1, 3), ""}, {last, swap(2, 5), ""},
		{nothing, add(1, 1, 1, 0), "7 no others"}, {ended, add(101, 1, 2, 0), "7 not above the due, 7 no others"}, {single, add(50, 1, 1, 0), "7 no others"}, {single, add(50, 4, 1, 0), "7 no others"},
	}
	// What no node, and no run, has use for.
	for _, n := range strange() {
		if n < 1 || n > 4 {
			l = append(l, turned{open, add(25, n, 5, 0), "7 no others"}, turned{open, add(25, n, 5, 4), "7 no others"})
		}
		if n != 5 {
			l = append(l, turned{open, add(25, 2, n, 4), "7 no others"}, turned{open, add(60, 1, n, 0), "7 no others"})
		}
		if n < 0 || n > 9 {
			l = append(l, turned{open, add(25, 2, 5, n), "7 no others"}, turned{open, add(25, 4, 5, n), "7 no others"})
		}
		if n != 0 {
			l = append(l, turned{open, add(22, 1, 5, n), "7 no others"}, turned{open, add(60, 1, 5, n), "7 no others, 7 deadline ahead"})
		}
	}
	for node := range 10 {
		if node != 5 {
			l = append(l, turned{open, add(25, 4, 5, node), "7 no others"})
		}
		if node != 4 && node < 7 || node == 9 {
			l = append(l, turned{open, add(25, 2, 5, node), "7 no others"}, turned{open, add(25, 3, 5, node), "7 no others"})
		}
	}
	return append(l, turned{open, add(25, 3, 5, 4), "7 no others"})
}

// state is what came of it.
func (x turned) state() api.State {
	s := copyOf(x.base())
	x.turn(&s)
	return s
}

// P14.8: each condition broken alone is enough; what breaks none is taken, and goes on.
func TestFromTurned(t *testing.T) {
	seen, alone := map[string]int{}, map[string]int{}
	for group, all := range map[string][]turned{"numbers": numbersTurned(), "runs": runsTurned(), "times": timesTurned(), "ready": readyTurned(), "timers": timersTurned()} {
		for i, x := range all {
			s := x.state()
			what := broken(s)
			for _, name := range what {
				seen[name]++
				if len(what) == 1 {
					alone[name]++
				}
			}
			slices.Sort(what)
			want := strings.Split(x.breaks, ", ")
			slices.Sort(want)
			if strings.Join(what, ", ") != strings.Join(want, ", ") {
				t.Errorf("%s %d: the state breaks %q, not %q: %+v", group, i, what, want, s)
			}
			e, code := From(s)
			if may := x.breaks == ""; (code == api.OK) != may || (e != nil) != may || !may && code != api.ErrEngineState {
				t.Errorf("P14.8: %s %d, which breaks %q: %d, %t", group, i, x.breaks, code, e != nil)
			}
			if code == api.OK {
				goesOn(t, chance(int64(i)), s, 25)
			}
		}
	}
	names := strings.Split("1 Now, 1 NextRun, 1 NextToken, 2 runs, 2 rising, 2 ID, 2 key, 2 keys, 3 run.From, 3 submitted, 3 due, 3 live: due above Now, 3 live: Ended 0, 3 ended: not below Submitted, 3 ended: not above Now, "+
		"3 ended: just the due, 3 ended: below the due, 4 token, 4 tokens, 4 worker, 4 no token, 4 no worker, 5 tasks, 6 once, 6 ready nodes, 6 lanes, 6 all, 7 rising, 7 above Now, 7 not above the due, "+
		"7 one deadline, 7 deadline's time, 7 one close, 7 close's time, 7 one beat, 7 beat's time, 7 one wake, 7 wake's time, 7 no others, 7 deadline ahead, 7 close ahead", ", ")
	for _, name := range names {
		// A live run whose due is not above Now can have no deadline that may be.
		if seen[name] == 0 || alone[name] == 0 && name != "3 live: due above Now" {
			t.Errorf("%q was never broken alone", name)
		}
	}
	if len(seen) != len(names) {
		t.Errorf("more conditions were broken than these: %v", seen)
	}
}

// goesOn lets what From makes of a state go on beside the model.
func goesOn(t *testing.T, r *rand.Rand, s api.State, ops int) {
	t.Helper()
	d := from(t, "P14.8", s)
	for range ops {
		d.do(anyOp(r, d.m))
	}
}

// anyNumber is small, or a strange one, or about one that is there.
func anyNumber(r *rand.Rand, about int) int {
	switch r.Intn(6) {
	case 0:
		return strange()[r.Intn(len(strange()))]
	case 1:
		return r.Intn(12)
	}
	return about + []int{-2, -1, 1, 2}[r.Intn(4)]
}

// spoilt turns one thing of a state by chance.
func spoilt(r *rand.Rand, s *api.State) {
	number := func(n *int) { *n = anyNumber(r, *n) }
	switch r.Intn(9) {
	case 0:
		number([]*int{&s.Now, &s.NextRun, &s.NextToken}[r.Intn(3)])
	case 1, 2:
		if len(s.Runs) > 0 {
			spoiltRun(r, &s.Runs[r.Intn(len(s.Runs))])
		}
	case 3:
		if n := len(s.Runs); n > 1 {
			i, j := r.Intn(n), r.Intn(n)
			s.Runs[i], s.Runs[j] = s.Runs[j], s.Runs[i]
		}
	case 4:
		if n := len(s.Ready); n > 0 {
			i, j := r.Intn(n), r.Intn(n)
			s.Ready[i], s.Ready[j] = s.Ready[j], s.Ready[i]
		}
	case 5:
		if n := len(s.Ready); n > 0 {
			x := &s.Ready[r.Intn(n)]
			number([]*int{&x.Run, &x.Node}[r.Intn(2)])
		} else {
			s.Ready = append(s.Ready, api.Ref{Run: r.Intn(4), Node: r.Intn(4)})
		}
	case 6, 7:
		if n := len(s.Timers); n > 0 {
			x := &s.Timers[r.Intn(n)]
			number([]*int{&x.Due, &x.Due, &x.Due, &x.Kind, &x.Run, &x.Node}[r.Intn(6)])
			if r.Intn(2) == 0 {
				sorted(s)
			}
		} else {
			s.Timers = append(s.Timers, api.Timer{Due: s.Now + r.Intn(9), Kind: r.Intn(5), Run: r.Intn(4), Node: r.Intn(4)})
		}
	case 8:
		if n := len(s.Timers); n > 1 {
			i := r.Intn(n - 1)
			s.Timers[i], s.Timers[i+1] = s.Timers[i+1], s.Timers[i]
		}
	}
}

func spoiltRun(r *rand.Rand, x *api.RunState) {
	number := func(n *int) { *n = anyNumber(r, *n) }
	node := &x.Nodes[r.Intn(len(x.Nodes))]
	field := &x.Plan.Nodes[r.Intn(len(x.Plan.Nodes))]
	switch r.Intn(6) {
	case 0:
		number([]*int{&x.ID, &x.Status, &x.Submitted, &x.Ended, &x.Plan.Deadline}[r.Intn(5)])
	case 1:
		x.Key = []string{"", "k", "key", "kk", strings.Repeat("k", 38+r.Intn(5))}[r.Intn(5)]
	case 2, 3:
		number([]*int{&node.State, &node.Attempts, &node.Token, &node.Worker}[r.Intn(4)])
	case 4:
		node.Result = make([]byte, r.Intn(70))
	case 5:
		number([]*int{&field.Lane, &field.Close, &field.Beat, &field.Cap, &field.Jitter, &field.Budget}[r.Intn(6)])
	}
}

// P14.8: states that engines have come to, turned in a thing or a few by chance; what may be goes on.
func TestFromSpoilt(t *testing.T) {
	t.Parallel()
	r := chance(3)
	taken, refused := 0, 0
	for range 300 {
		d := begin(t, "P14.8")
		for range 5 + r.Intn(60) {
			d.do(anyOp(r, d.m))
		}
		for range 40 {
			s := copyOf(d.m.s)
			for range 1 + r.Intn(2) {
				spoilt(r, &s)
			}
			if len(broken(s)) == 0 {
				taken++
				goesOn(t, r, s, 10)
				continue
			}
			refused++
			if e, code := From(s); e != nil || code != api.ErrEngineState {
				t.Fatalf("P14.8: From(%+v): %d; it breaks %q", s, code, broken(s))
			}
		}
	}
	if taken < 2000 || refused < 2000 {
		t.Errorf("%d were taken, %d refused", taken, refused)
	}
}

// P14.8: From ends and does not panic, whatever it is given.
func TestFromAnything(t *testing.T) {
	t.Parallel()
	r := chance(4)
	for range 20000 {
		s := open()
		for range 1 + r.Intn(12) {
			spoilt(r, &s)
		}
		want := api.OK
		if len(broken(s)) > 0 {
			want = api.ErrEngineState
		}
		if e, code := From(s); code != want || (e != nil) != (want == api.OK) {
			t.Fatalf("P14.8: From(%+v): %d; it breaks %q", s, code, broken(s))
		}
	}
	for _, s := range []api.State{{}, {NextRun: 1}, {NextToken: 1}, {NextRun: 1, NextToken: 1, Runs: make([]api.RunState, 1)}, {NextRun: 1, NextToken: 1, Ready: make([]api.Ref, 1)}, {NextRun: 1, NextToken: 1, Timers: make([]api.Timer, 1)},
		{NextRun: 9, NextToken: 9, Runs: make([]api.RunState, 1<<20)}, {NextRun: 9, NextToken: 9, Ready: make([]api.Ref, 1<<20)}, {NextRun: 9, NextToken: 9, Timers: make([]api.Timer, 1<<20)}} {
		if e, code := From(s); e != nil || code != api.ErrEngineState {
			t.Errorf("P14.8: %d", code)
		}
	}
}
