package plan

import (
	"fmt"
	"math"
	"math/rand"
	"reflect"
	"regexp"
	"slices"
	"strconv"
	"testing"

	"escapement/api"
)

const greatest = 1 << 40 // the greatest delay, as the chapter writes it

func chance(seed int64) *rand.Rand { return rand.New(rand.NewSource(seed)) }

// The model has the chapter's words, one by one: it looks for all faults, and takes the first.

type fault struct {
	node int
	code api.Errno
}

var name = regexp.MustCompile(`\A[-a-z0-9_.]{1,40}\z`)

func outside(n, least, most int) bool { return n < least || n > most }

func wholeFaults(p api.Plan) (faults []fault) {
	if !name.MatchString(p.Name) {
		faults = append(faults, fault{0, 100})
	}
	if outside(p.Deadline, 1, greatest) {
		faults = append(faults, fault{0, 101})
	}
	edges := 0
	for _, n := range p.Nodes {
		edges += len(n.Needs) + len(n.After)
	}
	if len(p.Nodes) == 0 || len(p.Nodes) > 64 || edges > 256 {
		faults = append(faults, fault{0, 102})
	}
	return faults
}

func edgeFault(p api.Plan, node int) bool {
	n := p.Nodes[node]
	for _, list := range [][]int{n.Needs, n.After} {
		for i, to := range list {
			if to < 0 || to >= len(p.Nodes) || to == node || i > 0 && to <= list[i-1] {
				return true
			}
		}
	}
	for _, to := range n.Needs {
		for _, also := range n.After {
			if to == also {
				return true
			}
		}
	}
	return false
}

func nodeFaults(p api.Plan, node int) (faults []fault) {
	n := p.Nodes[node]
	earlier := slices.ContainsFunc(p.Nodes[:node], func(o api.Node) bool { return o.Name == n.Name })
	if !name.MatchString(n.Name) || earlier {
		faults = append(faults, fault{node + 1, 103})
	}
	for _, c := range [][3]int{{n.Lane, 0, 15}, {n.Budget, 1, 100}, {n.Close, 1, greatest}, {n.Beat, 0, greatest}, {n.Cap, 1, greatest}, {n.Base, 1, n.Cap}, {n.Jitter, 0, greatest}} {
		if outside(c[0], c[1], c[2]) {
			faults = append(faults, fault{node + 1, 104})
		}
	}
	if edgeFault(p, node) {
		faults = append(faults, fault{node + 1, 105})
	}
	return faults
}

// closure joins what leads from one to another till nothing more comes; the edges must be nodes' numbers.
func closure(p api.Plan, edges func(n api.Node) []int) [][]bool {
	leads := make([][]bool, len(p.Nodes))
	for i, n := range p.Nodes {
		leads[i] = make([]bool, len(p.Nodes))
		for _, to := range edges(n) {
			leads[i][to] = true
		}
	}
	for over := range leads {
		for from := range leads {
			for to := range leads {
				if leads[from][over] && leads[over][to] {
					leads[from][to] = true
				}
			}
		}
	}
	return leads
}

func bothLists(n api.Node) []int { return slices.Concat(n.Needs, n.After) }

func modelWaits(p api.Plan) [][]bool { return closure(p, bothLists) }

func modelNeeds(p api.Plan) [][]bool {
	return closure(p, func(n api.Node) []int { return n.Needs })
}

func modelCheck(p api.Plan) (int, api.Errno) {
	faults := wholeFaults(p)
	if len(faults) == 0 {
		for node := range p.Nodes {
			faults = append(faults, nodeFaults(p, node)...)
		}
	}
	if len(faults) == 0 {
		for node, waits := range modelWaits(p) {
			if waits[node] {
				faults = append(faults, fault{node + 1, 106})
			}
		}
	}
	if len(faults) == 0 {
		return 0, 0
	}
	return faults[0].node, faults[0].code
}

func modelOrder(p api.Plan) ([]int, api.Errno) {
	if _, code := modelCheck(p); code != 0 {
		return nil, code
	}
	var told []int
	for len(told) < len(p.Nodes) {
		for node, n := range p.Nodes {
			open := slices.ContainsFunc(bothLists(n), func(to int) bool { return !slices.Contains(told, to) })
			if !slices.Contains(told, node) && !open {
				told = append(told, node)
				break
			}
		}
	}
	return told, 0
}

// modelBelows has for each node those that need it.
func modelBelows(p api.Plan) ([][]int, api.Errno) {
	if _, code := modelCheck(p); code != 0 {
		return nil, code
	}
	below := make([][]int, len(p.Nodes))
	for from, needs := range modelNeeds(p) {
		for to := range p.Nodes {
			if needs[to] {
				below[to] = append(below[to], from)
			}
		}
	}
	return below, 0
}

// full makes each list one that is there.
func full(p api.Plan) api.Plan {
	nodes := make([]api.Node, 0)
	for _, n := range p.Nodes {
		n.Needs, n.After = append([]int{}, n.Needs...), append([]int{}, n.After...)
		nodes = append(nodes, n)
	}
	p.Nodes = nodes
	return p
}

func modelSame(a, b api.Plan) bool { return reflect.DeepEqual(full(a), full(b)) }

// Plans of the examples' form.

func node(name string, needs, after []int) api.Node {
	return api.Node{Name: name, Budget: 2, Close: 10, Base: 4, Cap: 8, Needs: needs, After: after}
}

func of(nodes ...api.Node) api.Plan { return api.Plan{Name: "p", Deadline: 100, Nodes: nodes} }

// plain has so many nodes without an edge.
func plain(nodes int) api.Plan {
	p := of()
	for i := range nodes {
		p.Nodes = append(p.Nodes, node("n"+strconv.Itoa(i), nil, nil))
	}
	return p
}

// line has each node need the one so far behind it (or ahead of it: -1).
func line(nodes, step int) api.Plan {
	p := plain(nodes)
	for i := range p.Nodes {
		if to := i + step; to >= 0 && to < nodes {
			p.Nodes[i].Needs = []int{to}
		}
	}
	return p
}

// copyOf shares nothing with a plan.
func copyOf(p api.Plan) api.Plan {
	p.Nodes = slices.Clone(p.Nodes)
	for i := range p.Nodes {
		p.Nodes[i].Needs, p.Nodes[i].After = slices.Clone(p.Nodes[i].Needs), slices.Clone(p.Nodes[i].After)
	}
	return p
}

// lay puts an edge into one of both lists, where it belongs, unless it is there.
func lay(p api.Plan, from, to int, after bool) {
	n := &p.Nodes[from]
	if slices.Contains(bothLists(*n), to) {
		return
	}
	list := &n.Needs
	if after {
		list = &n.After
	}
	*list = append(*list, to)
	slices.Sort(*list)
}

func edgesOf(p api.Plan) int {
	edges := 0
	for _, n := range p.Nodes {
		edges += len(n.Needs) + len(n.After)
	}
	return edges
}

// anyDelay is as often small as great.
func anyDelay(r *rand.Rand) int { return r.Intn(1<<r.Intn(41) + 1) }

func anySpan(r *rand.Rand) int { return max(1, anyDelay(r)) }

const letters = "abcdefghijklmnopqrstuvwxyz0123456789-_."

func anyName(r *rand.Rand) string {
	text := make([]byte, r.Intn(40)+1)
	for i := range text {
		text[i] = letters[r.Intn(len(letters))]
	}
	return string(text)
}

// anyPlan is one that may be: its edges lead to nodes that are ahead in a row that chance makes.
func anyPlan(r *rand.Rand, nodes, edges int) api.Plan {
	p := api.Plan{Name: anyName(r), Deadline: anySpan(r)}
	names := map[string]bool{}
	for range nodes {
		n := api.Node{Name: anyName(r), Lane: r.Intn(16), Budget: r.Intn(100) + 1, Close: anySpan(r), Beat: anyDelay(r), Cap: anySpan(r), Jitter: anyDelay(r)}
		for names[n.Name] {
			n.Name = anyName(r)
		}
		names[n.Name] = true
		n.Base = r.Intn(n.Cap) + 1
		p.Nodes = append(p.Nodes, n)
	}
	row := r.Perm(nodes)
	for range edges {
		if from := r.Intn(nodes); from > 0 && edgesOf(p) < 256 {
			lay(p, row[from], row[r.Intn(from)], r.Intn(3) == 0)
		}
	}
	return p
}

// someOf is a plan of any size, more often a small one.
func someOf(r *rand.Rand) api.Plan {
	nodes := 1 + r.Intn(1<<r.Intn(7))
	return anyPlan(r, nodes, r.Intn(4*nodes+1))
}

// numbers lie about the edges of all that is counted, some with low bits that would be within them.
func numbers() []int {
	list := []int{math.MinInt, math.MinInt + 1, -1 << 40, -1 << 32, -1<<32 + 5, -1 << 31, -100, -2, -1, 0, 1, 2, 3, 4, 7, 8, 9, 14, 15, 16, 17, 31, 63, 64, 65,
		99, 100, 101, 127, 128, 129, 255, 256, 257, 260, 1 << 16, 1<<16 + 5, 1<<31 - 1, 1 << 31, 1 << 32, 1<<32 + 5, greatest/2 - 1, greatest / 2,
		greatest - 1, greatest, greatest + 1, greatest + 2, greatest + 5, 1 << 41, 1<<41 + 5, 1 << 62, math.MaxInt - 1, math.MaxInt}
	return list
}

// told is a plan in few words.
func told(p api.Plan) string {
	text := fmt.Sprintf("%.50q %d, %d nodes:", p.Name, p.Deadline, len(p.Nodes))
	for _, n := range p.Nodes {
		text += fmt.Sprintf(" %.50q %d %d %d %d %d %d %d %v %v", n.Name, n.Lane, n.Budget, n.Close, n.Beat, n.Base, n.Cap, n.Jitter, n.Needs, n.After)
		if len(text) > 2000 {
			return text[:2000] + " .."
		}
	}
	return text
}

// Each asks the package, and holds the answer against what is wanted.

func wantsCheck(t *testing.T, promise string, p api.Plan, node int, code api.Errno) {
	t.Helper()
	if n, e := Check(p); n != node || e != code {
		t.Fatalf("%s: Check(%s): %d, %d; want %d, %d", promise, told(p), n, e, node, code)
	}
}

func wantsOrder(t *testing.T, promise string, p api.Plan, want []int, code api.Errno) {
	t.Helper()
	if list, e := Order(p); !slices.Equal(list, want) || e != code {
		t.Fatalf("%s: Order(%s): %v, %d; want %v, %d", promise, told(p), list, e, want, code)
	}
}

func wantsBelow(t *testing.T, promise string, p api.Plan, node int, want []int, code api.Errno) {
	t.Helper()
	if list, e := Below(p, node); !slices.Equal(list, want) || e != code {
		t.Fatalf("%s: Below(%s, %d): %v, %d; want %v, %d", promise, told(p), node, list, e, want, code)
	}
}

// wantsRefused asks all three of a plan that may not be.
func wantsRefused(t *testing.T, promise string, p api.Plan, node int, code api.Errno) {
	t.Helper()
	wantsCheck(t, promise, p, node, code)
	wantsOrder(t, promise, p, nil, code)
	for _, below := range []int{0, 1, len(p.Nodes) - 1, len(p.Nodes), -1, math.MaxInt, math.MinInt} {
		wantsBelow(t, promise, p, below, nil, code)
	}
}

func wantsSame(t *testing.T, promise string, a, b api.Plan, want bool) {
	t.Helper()
	if Same(a, b) != want || Same(b, a) != want {
		t.Fatalf("%s: Same(%s, %s): %v, %v; want %v", promise, told(a), told(b), Same(a, b), Same(b, a), want)
	}
}

// sameAll holds all three against the model.
func sameAll(t *testing.T, p api.Plan) {
	t.Helper()
	node, code := modelCheck(p)
	if code != 0 {
		wantsRefused(t, "P10.1, P10.2, P10.3", p, node, code)
		return
	}
	wantsCheck(t, "P10.1", p, 0, api.OK)
	order, _ := modelOrder(p)
	wantsOrder(t, "P10.2", p, order, api.OK)
	belows, _ := modelBelows(p)
	for node, below := range belows {
		wantsBelow(t, "P10.3", p, node, below, api.OK)
	}
	wantsBelow(t, "P10.3", p, -1, nil, api.ErrPlanNode)
	wantsBelow(t, "P10.3", p, len(p.Nodes), nil, api.ErrPlanNode)
}
