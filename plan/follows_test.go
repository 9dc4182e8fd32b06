package plan

import (
	"math"
	"math/rand"
	"slices"
	"strings"
	"testing"

	"escapement/api"
)

// Beside the model, and what follows, P10.5.

// P10.1 to P10.3: every plan of three nodes, each pair of which has no edge, one in Needs or one in After, either way.
func TestAllOfThree(t *testing.T) {
	pairs := [][2]int{{0, 1}, {0, 2}, {1, 0}, {1, 2}, {2, 0}, {2, 1}}
	for code := range 729 {
		p := plain(3)
		rest := code
		for _, pair := range pairs {
			if rest%3 > 0 {
				lay(p, pair[0], pair[1], rest%3 == 2)
			}
			rest /= 3
		}
		sameAll(t, p)
		orders(t, p)
	}
}

// P10.1 to P10.3: every plan of four nodes, as to where edges lead; their kinds by two rules.
func TestAllOfFour(t *testing.T) {
	t.Parallel()
	for edges := range 1 << 12 {
		for rule := range 2 {
			p := plain(4)
			for i := range 12 {
				from := i / 3
				to := (from + 1 + i%3) % 4
				if edges>>i&1 == 1 {
					lay(p, from, to, (edges>>2+i)%3 == rule)
				}
			}
			sameAll(t, p)
			orders(t, p)
		}
	}
}

// rows goes through all orders of so many nodes, the least ones first, till it is told to stop.
func rows(nodes int, visit func(row []int) bool) {
	row := make([]int, 0, nodes)
	var more func() bool
	more = func() bool {
		if len(row) == nodes {
			return visit(row)
		}
		for next := range nodes {
			if !slices.Contains(row, next) {
				row = append(row, next)
				if !more() {
					return false
				}
				row = row[:len(row)-1]
			}
		}
		return true
	}
	more()
}

// behind tells whether each node stands behind all that its edges lead to.
func behind(p api.Plan, row []int) bool {
	for i, node := range row {
		for _, to := range bothLists(p.Nodes[node]) {
			if !slices.Contains(row[:i], to) {
				return false
			}
		}
	}
	return true
}

// orders finds the least order by trying all: it is what Order tells; where there is none, nodes wait for one another.
func orders(t *testing.T, p api.Plan) {
	t.Helper()
	var least []int
	rows(len(p.Nodes), func(row []int) bool {
		if behind(p, row) {
			least = slices.Clone(row)
		}
		return least == nil
	})
	want := api.OK
	if least == nil {
		want = api.ErrPlanCycle
	}
	if _, code := Check(p); code != want {
		t.Fatalf("P10.5: Check(%s): %d, though the least order is %v", told(p), code, least)
	}
	wantsOrder(t, "P10.5", p, least, want)
}

// P10.2, P10.5: plans of five and six nodes, of few edges or many, beside all orders.
func TestLeastOrder(t *testing.T) {
	t.Parallel()
	r := chance(1)
	cycles := 0
	for range 6000 {
		p := plain(5 + r.Intn(2))
		for range r.Intn(11) {
			if from, to := r.Intn(len(p.Nodes)), r.Intn(len(p.Nodes)); from != to {
				lay(p, from, to, r.Intn(2) == 0)
			}
		}
		orders(t, p)
		if _, code := Check(p); code != api.OK {
			cycles++
		}
	}
	if cycles < 1000 || cycles > 5000 {
		t.Errorf("of 6000 plans %d have a cycle", cycles)
	}
}

// P10.1 to P10.3: plans that may be, of all sizes, beside the model.
func TestPlans(t *testing.T) {
	t.Parallel()
	r := chance(2)
	for range 700 {
		p := someOf(r)
		wantsCheck(t, "P10.1", p, 0, api.OK)
		sameAll(t, p)
	}
	for range 60 {
		sameAll(t, anyPlan(r, 64, 255))
	}
}

// P10.1 to P10.3: plans with edges as chance has them, so that some nodes wait for one another.
func TestCycles(t *testing.T) {
	t.Parallel()
	r := chance(3)
	ways := map[api.Errno]int{}
	places := map[int]int{}
	for range 1500 {
		p := someOf(r)
		for range 1 + r.Intn(3) {
			if from, to := r.Intn(len(p.Nodes)), r.Intn(len(p.Nodes)); from != to && edgesOf(p) < 256 {
				lay(p, from, to, r.Intn(2) == 0)
			}
		}
		sameAll(t, p)
		node, code := Check(p)
		ways[code]++
		places[node]++
	}
	if ways[api.OK] < 200 || ways[api.ErrPlanCycle] < 200 || len(places) < 20 {
		t.Errorf("too few ways: %v, %v", ways, places)
	}
}

// spoilers turn something of a plan, or of its node, to what may not be (or may, by chance).
func spoilers() []func(r *rand.Rand, p *api.Plan, n *api.Node) {
	edgy := func(r *rand.Rand) int { return numbers()[r.Intn(len(numbers()))] }
	edge := func(r *rand.Rand, p *api.Plan, list []int) []int {
		list = slices.Insert(list, r.Intn(len(list)+1), r.Intn(len(p.Nodes)+2)-1)
		return list
	}
	list := []func(r *rand.Rand, p *api.Plan, n *api.Node){
		func(r *rand.Rand, p *api.Plan, n *api.Node) { p.Name = strings.ToUpper(p.Name) },
		func(r *rand.Rand, p *api.Plan, n *api.Node) { p.Name += p.Name },
		func(r *rand.Rand, p *api.Plan, n *api.Node) { p.Deadline = edgy(r) },
		func(r *rand.Rand, p *api.Plan, n *api.Node) { p.Nodes = nil },
		func(r *rand.Rand, p *api.Plan, n *api.Node) { p.Nodes = append(p.Nodes, p.Nodes...) },
		func(r *rand.Rand, p *api.Plan, n *api.Node) { n.Needs = append(n.Needs, make([]int, 200)...) },
		func(r *rand.Rand, p *api.Plan, n *api.Node) { n.After = append(n.After, n.Needs...) },
	}
	for range 3 { // these come about more often
		list = append(list,
			func(r *rand.Rand, p *api.Plan, n *api.Node) { n.Name = p.Nodes[r.Intn(len(p.Nodes))].Name },
			func(r *rand.Rand, p *api.Plan, n *api.Node) { n.Name = n.Name[1:] + string(rune(r.Intn(200))) },
			func(r *rand.Rand, p *api.Plan, n *api.Node) { n.Needs = edge(r, p, n.Needs) },
			func(r *rand.Rand, p *api.Plan, n *api.Node) { n.After = edge(r, p, n.After) },
			func(r *rand.Rand, p *api.Plan, n *api.Node) { slices.Reverse(n.Needs) },
			func(r *rand.Rand, p *api.Plan, n *api.Node) { slices.Reverse(n.After) })
		for _, f := range fields() {
			list = append(list, func(r *rand.Rand, p *api.Plan, n *api.Node) { *f.of(n) = edgy(r) })
		}
	}
	return list
}

// P10.1: plans with one fault or several, beside the model.
func TestSpoiled(t *testing.T) {
	t.Parallel()
	r := chance(4)
	ways := map[api.Errno]int{}
	all := spoilers()
	for range 30000 {
		p := anyPlan(r, 1+r.Intn(8), r.Intn(12))
		for range 1 + r.Intn(4) {
			if len(p.Nodes) > 0 {
				all[r.Intn(len(all))](r, &p, &p.Nodes[r.Intn(len(p.Nodes))])
			}
		}
		node, code := modelCheck(p)
		wantsCheck(t, "P10.1", p, node, code)
		ways[code]++
	}
	for code := api.ErrPlanName; code <= api.ErrPlanCycle; code++ {
		if ways[code] < 100 {
			t.Errorf("P10.1: the error %d came %d times", code, ways[code])
		}
	}
	if ways[api.OK] < 1000 {
		t.Errorf("P10.1: only %d were let pass", ways[api.OK])
	}
}

// P10.4: a plan and a copy of it are the same; spoiled, they are what the model says.
func TestSame(t *testing.T) {
	t.Parallel()
	r := chance(5)
	all := spoilers()
	sames := 0
	for range 5000 {
		p := anyPlan(r, 1+r.Intn(8), r.Intn(12))
		q := copyOf(p)
		wantsSame(t, "P10.4", p, q, true)
		wantsSame(t, "P10.4", p, full(q), true)
		all[r.Intn(len(all))](r, &q, &q.Nodes[r.Intn(len(q.Nodes))])
		wantsSame(t, "P10.4", p, q, modelSame(p, q))
		if modelSame(p, q) {
			sames++
		}
	}
	if sames < 100 || sames > 2500 {
		t.Errorf("P10.4: %d of 5000 were the same", sames)
	}
}

// P10.5: Order has each node once, behind all that it waits for.
func TestOrderFollows(t *testing.T) {
	t.Parallel()
	r := chance(6)
	for range 2000 {
		p := someOf(r)
		order, code := Order(p)
		if code != api.OK || len(order) != len(p.Nodes) {
			t.Fatalf("P10.5: Order(%s): %v, %d", told(p), order, code)
		}
		place := make([]int, len(order))
		for i := range place {
			place[i] = slices.Index(order, i)
		}
		for node, waits := range modelWaits(p) {
			if place[node] < 0 {
				t.Fatalf("P10.5: Order(%s) is without %d: %v", told(p), node, order)
			}
			for to, does := range waits {
				if does && place[to] >= place[node] {
					t.Fatalf("P10.5: Order(%s): %d waits for %d, but: %v", told(p), node, to, order)
				}
			}
		}
	}
}

// P10.5: an edge more to a node that stands ahead in Order makes no cycle; one to a node that waits for it does, and there is no order then.
func TestEdgeMore(t *testing.T) {
	t.Parallel()
	r := chance(7)
	for range 400 {
		p := someOf(r)
		if edgesOf(p) == 256 {
			continue
		}
		order, _ := Order(p)
		waits := modelWaits(p)
		for i, from := range order {
			for _, to := range order[:i] {
				if r.Intn(len(order)) > 16 {
					continue // as many as time allows
				}
				after := r.Intn(2) == 0
				more := copyOf(p)
				lay(more, from, to, after)
				wantsCheck(t, "P10.5", more, 0, api.OK)
				if !waits[from][to] {
					continue
				}
				ring := copyOf(p)
				lay(ring, to, from, after)
				wantsOrder(t, "P10.5", ring, nil, api.ErrPlanCycle)
				if node, code := Check(ring); code != api.ErrPlanCycle || node < 1 || node > min(from, to)+1 {
					t.Fatalf("P10.5: Check(%s): %d, %d, where %d and %d wait for each other", told(ring), node, code, from, to)
				}
			}
		}
	}
}

// P10.3, P10.5: who needs one that needs a node needs that node; nobody needs itself; all stand behind it in Order; the list rises.
func TestBelowFollows(t *testing.T) {
	t.Parallel()
	r := chance(8)
	for range 400 {
		p := someOf(r)
		order, _ := Order(p)
		all := make([][]int, len(p.Nodes))
		for node := range all {
			all[node], _ = Below(p, node)
		}
		for node, below := range all {
			for i, from := range below {
				if i > 0 && from <= below[i-1] || from == node {
					t.Fatalf("P10.3: Below(%s, %d): %v", told(p), node, below)
				}
				if slices.Index(order, from) < slices.Index(order, node) {
					t.Fatalf("P10.5: in %s %d needs %d, but stands ahead of it: %v", told(p), from, node, order)
				}
				for _, further := range all[from] {
					if !slices.Contains(below, further) {
						t.Fatalf("P10.5: in %s %d needs %d, which needs %d, but that has %v", told(p), further, from, node, below)
					}
				}
			}
			for from, n := range p.Nodes {
				if slices.Contains(n.Needs, node) && !slices.Contains(below, from) {
					t.Fatalf("P10.3: in %s %d has %d in Needs, but that has %v", told(p), from, node, below)
				}
			}
		}
	}
}

// P10.3: an edge more in After changes nothing of who needs whom, nor do names, numbers and the Deadline.
func TestBelowElse(t *testing.T) {
	t.Parallel()
	r := chance(9)
	for range 300 {
		p := anyPlan(r, 2+r.Intn(20), r.Intn(40))
		other := anyPlan(r, len(p.Nodes), 0)
		order, _ := Order(p)
		for i, n := range p.Nodes {
			other.Nodes[i].Needs = slices.Clone(n.Needs)
		}
		for range 20 {
			at := 1 + r.Intn(len(order)-1)
			lay(other, order[at], order[r.Intn(at)], true)
		}
		for node := range p.Nodes {
			want, code := Below(p, node)
			wantsBelow(t, "P10.3", other, node, want, code)
		}
	}
}

// R1: calls end and do not panic, whatever they are given, and refuse what may not be.
func TestAnything(t *testing.T) {
	t.Parallel()
	r := chance(10)
	edgy := func() int { return numbers()[r.Intn(len(numbers()))] }
	text := func() string {
		b := make([]byte, r.Intn(50))
		for i := range b {
			b[i] = byte(r.Intn(256))
		}
		return string(b)
	}
	list := func() []int {
		var list []int
		for range r.Intn(5) {
			list = append(list, edgy())
		}
		return list
	}
	for range 20000 {
		p := api.Plan{Name: text(), Deadline: edgy()}
		if r.Intn(2) == 0 {
			p.Name, p.Deadline = "p", 1
		}
		for range r.Intn(70) {
			n := api.Node{Name: text(), Lane: edgy(), Budget: edgy(), Close: edgy(), Beat: edgy(), Base: edgy(), Cap: edgy(), Jitter: edgy(), Needs: list(), After: list()}
			p.Nodes = append(p.Nodes, n)
		}
		node, code := modelCheck(p)
		wantsCheck(t, "P10.1", p, node, code)
		wantsOrder(t, "P10.2", p, nil, code)
		wantsBelow(t, "P10.3", p, edgy(), nil, code)
		wantsSame(t, "P10.4", p, full(p), true)
	}
	wantsRefused(t, "P10.1", api.Plan{}, 0, api.ErrPlanName)
	wantsBelow(t, "P10.3", api.Plan{}, math.MinInt, nil, api.ErrPlanName)
}
