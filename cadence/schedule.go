package cadence

import (
	"slices"
	"strings"

	"escapement/api"
	"escapement/cron"
)

// never is below all times: of a schedule nothing was fired.
const never = -1

// schedule is what a book keeps of one, beside its name.
type schedule struct {
	when  *cron.Expr
	from  int
	plan  api.Plan
	fired int // the last time that was, or never
}

// next is the first of its times behind t.
func (x *schedule) next(t int) (int, bool) { return x.when.Next(max(t, x.from-1)) }

// due is the last of its times up to now, if that is still to be fired.
func (x *schedule) due(now int) (int, bool) {
	t, ok := x.when.Last(now)
	return t, ok && t >= x.from && t > x.fired
}

func isTime(t int) bool { return t >= 0 && t <= api.MaxTime }

func isName(text string) bool {
	return len(text) > 0 && len(text) <= api.MaxTitle && !strings.ContainsFunc(text, notInName)
}

func notInName(r rune) bool {
	return (r < 'a' || r > 'z') && (r < '0' || r > '9') && r != '-' && r != '_' && r != '.'
}

func copyPlan(p api.Plan) api.Plan {
	p.Name, p.Nodes = strings.Clone(p.Name), slices.Clone(p.Nodes)
	for i := range p.Nodes {
		n := &p.Nodes[i]
		n.Name, n.Needs, n.After = strings.Clone(n.Name), copyEdges(n.Needs), copyEdges(n.After)
	}
	return p
}

// copyEdges has nothing of an empty list either, whose spare room is the caller's.
func copyEdges(list []int) []int { return append([]int(nil), list...) }
