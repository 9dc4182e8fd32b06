package plan

import (
	"slices"

	"escapement/api"
)

// checkWhole looks at what is no single node's.
func checkWhole(p api.Plan) api.Errno {
	switch {
	case !isName(p.Name):
		return api.ErrPlanName
	case !within(p.Deadline, 1, api.MaxDelay):
		return api.ErrPlanDeadline
	case !within(len(p.Nodes), 1, api.MaxNodes) || countEdges(p.Nodes) > api.MaxEdges:
		return api.ErrPlanSize
	}
	return api.OK
}

func countEdges(nodes []api.Node) int {
	count := 0
	for _, n := range nodes {
		count += len(n.Needs) + len(n.After)
	}
	return count
}

// checkNodes tells the first node at fault, from 1 on, and its first fault.
func checkNodes(nodes []api.Node) (int, api.Errno) {
	names := make(map[string]int, len(nodes))
	for i, n := range nodes {
		switch {
		case !isName(n.Name) || names[n.Name] != 0:
			return i + 1, api.ErrPlanNode
		case !fieldsHold(n):
			return i + 1, api.ErrPlanField
		case !edgesHold(n, i, len(nodes)):
			return i + 1, api.ErrPlanEdge
		}
		names[n.Name] = i + 1
	}
	return 0, api.OK
}

func fieldsHold(n api.Node) bool {
	return within(n.Lane, 0, api.MaxLanes-1) &&
		within(n.Budget, 1, api.MaxBudget) &&
		within(n.Close, 1, api.MaxDelay) &&
		within(n.Beat, 0, api.MaxDelay) &&
		within(n.Cap, 1, api.MaxDelay) &&
		within(n.Base, 1, n.Cap) &&
		within(n.Jitter, 0, api.MaxDelay)
}

func edgesHold(n api.Node, own, count int) bool {
	inNeeds := func(node int) bool { return slices.Contains(n.Needs, node) }
	return listHolds(n.Needs, own, count) && listHolds(n.After, own, count) && !slices.ContainsFunc(n.After, inNeeds)
}

// listHolds takes the numbers to rise from 0 on, so that one below 0 is not greater than the one ahead of it.
func listHolds(list []int, own, count int) bool {
	ahead := -1
	for _, node := range list {
		if node <= ahead || node >= count || node == own {
			return false
		}
		ahead = node
	}
	return true
}

// cycle is the least node that waits for itself, from 1 on; 0 if there is none. Lesser ones were found not to wait for themselves, so no way from a node to itself leads over them: it goes down to greater ones alone.
func cycle(nodes []api.Node) int {
	for first := range nodes {
		var seen [api.MaxNodes]bool
		var leadsBack func(from int) bool
		leadsBack = func(from int) bool {
			step := func(next int) bool {
				if next <= first || seen[next] {
					return next == first
				}
				seen[next] = true
				return leadsBack(next)
			}
			return slices.ContainsFunc(nodes[from].Needs, step) || slices.ContainsFunc(nodes[from].After, step)
		}
		if leadsBack(first) {
			return first + 1
		}
	}
	return 0
}

func isName(text string) bool {
	if !within(len(text), 1, api.MaxName) {
		return false
	}
	for i := range len(text) {
		if !inName(text[i]) {
			return false
		}
	}
	return true
}

func inName(b byte) bool {
	return b >= 'a' && b <= 'z' || b >= '0' && b <= '9' || b == '-' || b == '_' || b == '.'
}

func within(number, least, most int) bool { return number >= least && number <= most }
