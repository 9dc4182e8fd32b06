package plan

import (
	"math"
	"reflect"
	"slices"
	"strings"
	"testing"
	"time"

	"escapement/api"
)

// The chapter's examples, row by row.
func TestExamples(t *testing.T) {
	p := of(node("a", nil, nil), node("b", []int{0}, nil), node("c", []int{0}, []int{1}))
	wantsCheck(t, "examples", p, 0, api.OK)
	wantsOrder(t, "examples", p, []int{0, 1, 2}, api.OK)
	wantsBelow(t, "examples", p, 0, []int{1, 2}, api.OK)
	wantsBelow(t, "examples", p, 1, nil, api.OK)

	p = of(node("a", []int{2}, nil), node("b", nil, nil), node("c", []int{1}, nil))
	wantsCheck(t, "examples", p, 0, api.OK)
	wantsOrder(t, "examples", p, []int{1, 2, 0}, api.OK)
	wantsBelow(t, "examples", p, 1, []int{0, 2}, api.OK)
	wantsBelow(t, "examples", p, 3, nil, api.ErrPlanNode)
	wantsBelow(t, "examples", p, -1, nil, api.ErrPlanNode)

	p = of(node("a", []int{1}, nil), node("b", []int{}, []int{2}), node("c", []int{1}, nil), node("d", []int{0}, nil))
	wantsCheck(t, "examples", p, 2, api.ErrPlanCycle)
	wantsOrder(t, "examples", p, nil, api.ErrPlanCycle)

	a, b := node("a", nil, nil), node("b", nil, nil)
	wantsCheck(t, "examples", of(a, a), 2, api.ErrPlanNode)
	wantsCheck(t, "examples", of(node("a", []int{0}, nil)), 1, api.ErrPlanEdge)
	wantsCheck(t, "examples", of(node("a", []int{1}, nil)), 1, api.ErrPlanEdge)
	wantsCheck(t, "examples", of(a, node("b", []int{0, 0}, nil)), 2, api.ErrPlanEdge)
	wantsCheck(t, "examples", of(a, node("b", []int{0}, []int{0})), 2, api.ErrPlanEdge)
	wantsCheck(t, "examples", of(a, b, node("c", []int{1, 0}, nil)), 3, api.ErrPlanEdge)

	wantsCheck(t, "examples", of(with(a, func(n *api.Node) { n.Base = 9 })), 1, api.ErrPlanField)
	wantsCheck(t, "examples", of(with(a, func(n *api.Node) { n.Lane = 16 })), 1, api.ErrPlanField)
	wantsCheck(t, "examples", of(with(a, func(n *api.Node) { n.Close, n.Name = 0, "A" })), 1, api.ErrPlanNode)
	p = of(with(a, func(n *api.Node) { n.Budget = 0 }))
	p.Name = strings.Repeat("p", 41)
	wantsCheck(t, "examples", p, 0, api.ErrPlanName)
	wantsCheck(t, "examples", of(), 0, api.ErrPlanSize)
	wantsCheck(t, "examples", plain(65), 0, api.ErrPlanSize)

	wantsSame(t, "examples", of(node("a", []int{}, nil), node("b", []int{0}, nil)), of(a, node("b", []int{0}, nil)), true)
	wantsSame(t, "examples", of(a, node("b", []int{0}, nil)), of(a, node("b", []int{}, []int{0})), false)
}

func with(n api.Node, turn func(n *api.Node)) api.Node {
	turn(&n)
	return n
}

// names has texts, and whether each is a name: of each length, and with each byte as the first, in the middle and the last.
func names() map[string]bool {
	all := map[string]bool{"": false, letters: true, "aé": false, "a b": false, "a\n": false, "\na": false, "A": false, "ä": false, "a\x00": false,
		"ａ": false, "٣": false, "ª": false, "\xff": false, "a,b": false, "a/b": false, "-": true, "_": true, ".": true, "..": true, "0": true}
	for length := 1; length < 100; length++ {
		all[strings.Repeat("z", length)] = length <= 40
		all[strings.Repeat("é", length)] = false
	}
	all[strings.Repeat("x", 40+256)] = false
	all[strings.Repeat("x", 1<<16+1)] = false
	for b := range 256 {
		c := string([]byte{byte(b)})
		is := strings.Contains(letters, c)
		for _, text := range []string{c, c + "bc", "a" + c + "c", "ab" + c, strings.Repeat("x", 39) + c} {
			all[text] = is
		}
		all[strings.Repeat("x", 40)+c] = false
	}
	return all
}

// P10.1: what a plan's name may be, and a node's, of the first, a middle and the last one.
func TestCheckNames(t *testing.T) {
	for text, is := range names() {
		p := plain(3)
		p.Name = text
		if is {
			wantsCheck(t, "P10.1", p, 0, api.OK)
		} else {
			wantsRefused(t, "P10.1", p, 0, api.ErrPlanName)
		}
		for i := range p.Nodes {
			p := plain(3)
			p.Nodes[i].Name = text
			if is {
				wantsCheck(t, "P10.1", p, 0, api.OK)
			} else {
				wantsRefused(t, "P10.1", p, i+1, api.ErrPlanNode)
			}
		}
	}
}

// P10.1: a name that an earlier node has: whichever two, and the later one is at fault.
func TestCheckNamesTwice(t *testing.T) {
	for first := range 64 {
		for second := first + 1; second < 64; second++ {
			p := plain(64)
			p.Nodes[second].Name = p.Nodes[first].Name
			wantsRefused(t, "P10.1", p, second+1, api.ErrPlanNode)
		}
	}
	p := plain(9)
	p.Nodes[8].Name, p.Nodes[5].Name, p.Nodes[3].Name, p.Nodes[6].Name = "n0", "n0", "n1", "n1"
	wantsRefused(t, "P10.1", p, 4, api.ErrPlanNode)
	for _, pair := range [][2]string{{"a", "b"}, {"a", "aa"}, {"a-b", "a_b"}, {"a.", "a"}, {"n1", "n10"}, {strings.Repeat("x", 39), strings.Repeat("x", 40)}} {
		wantsCheck(t, "P10.1", of(node(pair[0], nil, nil), node(pair[1], nil, nil)), 0, api.OK)
	}
	// A plan's name and a node's may be one.
	wantsCheck(t, "P10.1", of(node("p", nil, nil)), 0, api.OK)
}

// P10.1: the Deadline at and beyond its limits.
func TestCheckDeadline(t *testing.T) {
	for _, deadline := range numbers() {
		p := plain(2)
		p.Deadline = deadline
		if deadline >= 1 && deadline <= greatest {
			wantsCheck(t, "P10.1", p, 0, api.OK)
		} else {
			wantsRefused(t, "P10.1", p, 0, api.ErrPlanDeadline)
		}
	}
}

// P10.1: how many nodes there may be.
func TestCheckSize(t *testing.T) {
	for nodes := 1; nodes <= 64; nodes++ {
		wantsCheck(t, "P10.1", plain(nodes), 0, api.OK)
	}
	for _, nodes := range []int{65, 66, 100, 128, 129, 256, 257, 1 << 16} {
		wantsRefused(t, "P10.1", plain(nodes), 0, api.ErrPlanSize)
	}
	for _, none := range [][]api.Node{nil, {}, make([]api.Node, 0, 9), plain(9).Nodes[:0]} {
		wantsRefused(t, "P10.1", of(none...), 0, api.ErrPlanSize)
		wantsRefused(t, "P10.1", api.Plan{Name: "p", Deadline: 100, Nodes: none}, 0, api.ErrPlanSize)
	}
	// Too many are no node's fault, whatever they are like.
	wantsRefused(t, "P10.1", of(make([]api.Node, 65)...), 0, api.ErrPlanSize)
	wantsRefused(t, "P10.1", of(make([]api.Node, 64)...), 1, api.ErrPlanNode)
}

// edged has so many edges, all to lesser nodes, by a share of ten in After.
func edged(edges, share int) api.Plan {
	p := plain(64)
	for i := range p.Nodes {
		for to := 0; to < i && edges > 0; to++ {
			lay(p, i, to, edges%10 < share)
			edges--
		}
	}
	return p
}

// P10.1: how many edges there may be, of both lists of all nodes together.
func TestCheckEdgesCount(t *testing.T) {
	for _, share := range []int{0, 3, 5, 10} {
		for _, edges := range []int{0, 1, 128, 254, 255, 256} {
			if p := edged(edges, share); edgesOf(p) != edges {
				t.Fatalf("the plan has %d edges, not %d", edgesOf(p), edges)
			} else {
				wantsCheck(t, "P10.1", p, 0, api.OK)
			}
		}
		for _, edges := range []int{257, 258, 300, 512, 1000, 2016} {
			wantsRefused(t, "P10.1", edged(edges, share), 0, api.ErrPlanSize)
		}
	}
	// Edges that may not be are counted too, those of one list, of one node, of few nodes.
	for node := range 4 {
		for needs := 0; needs <= 257; needs++ {
			p := plain(4)
			p.Nodes[node].Needs, p.Nodes[node].After = make([]int, needs), make([]int, 256-min(needs, 256))
			if needs == 257 {
				wantsRefused(t, "P10.1", p, 0, api.ErrPlanSize)
				continue
			}
			wantsRefused(t, "P10.1", p, node+1, api.ErrPlanEdge)
			p.Nodes[3-node].After = append(p.Nodes[3-node].After, node)
			wantsRefused(t, "P10.1", p, 0, api.ErrPlanSize)
		}
	}
	long := make([]int, 1<<20)
	wantsRefused(t, "P10.1", of(node("a", long, long), node("b", long, long)), 0, api.ErrPlanSize)
}

// field is a number of a node, and what it may be.
type field struct {
	name        string
	least, most int
	of          func(n *api.Node) *int
}

func fields() []field {
	return []field{
		{"Lane", 0, 15, func(n *api.Node) *int { return &n.Lane }},
		{"Budget", 1, 100, func(n *api.Node) *int { return &n.Budget }},
		{"Close", 1, greatest, func(n *api.Node) *int { return &n.Close }},
		{"Beat", 0, greatest, func(n *api.Node) *int { return &n.Beat }},
		{"Base", 1, greatest, func(n *api.Node) *int { return &n.Base }},
		{"Cap", 1, greatest, func(n *api.Node) *int { return &n.Cap }},
		{"Jitter", 0, greatest, func(n *api.Node) *int { return &n.Jitter }},
	}
}

// P10.1: each number of a node at and beyond its limits, of the first, a middle and the last one.
func TestCheckFields(t *testing.T) {
	for _, f := range fields() {
		for _, value := range slices.Concat(numbers(), []int{f.least - 1, f.least, f.least + 1, f.most - 1, f.most, f.most + 1}) {
			for _, at := range []int{0, 3, 6} {
				p := plain(7)
				n := &p.Nodes[at]
				n.Base, n.Cap = 1, greatest // so that either holds whatever the other one is
				*f.of(n) = value
				if value >= f.least && value <= f.most {
					wantsCheck(t, "P10.1 "+f.name, p, 0, api.OK)
				} else {
					wantsRefused(t, "P10.1 "+f.name, p, at+1, api.ErrPlanField)
				}
			}
		}
	}
}

// P10.1: Base is 1 to Cap, and Cap a number by itself.
func TestCheckBase(t *testing.T) {
	for _, base := range numbers() {
		for _, most := range numbers() {
			for at := range 3 {
				p := plain(3)
				p.Nodes[at].Base, p.Nodes[at].Cap = base, most
				if most >= 1 && most <= greatest && base >= 1 && base <= most {
					wantsCheck(t, "P10.1", p, 0, api.OK)
				} else {
					wantsRefused(t, "P10.1", p, at+1, api.ErrPlanField)
				}
			}
		}
	}
}

// P10.1: a number that is no node's, or its own, in either list, at its beginning, in its middle or at its end.
func TestCheckEdgeNumbers(t *testing.T) {
	for at := range 7 {
		for _, to := range append(numbers(), 5, 6) {
			for _, after := range []bool{false, true} {
				p := plain(7)
				lay(p, at, to, after)
				if to >= 0 && to < 7 && to != at {
					wantsCheck(t, "P10.1", p, 0, api.OK)
				} else {
					wantsRefused(t, "P10.1", p, at+1, api.ErrPlanEdge)
				}
				for other := range 7 {
					if other != at {
						lay(p, at, other, after)
					}
				}
				if to >= 0 && to < 7 && to != at {
					wantsCheck(t, "P10.1", p, 0, api.OK)
				} else {
					wantsRefused(t, "P10.1", p, at+1, api.ErrPlanEdge)
				}
			}
		}
	}
}

// P10.1: every list of three numbers, as either list, of each of four nodes: just those that rise may be.
func TestCheckEdgeLists(t *testing.T) {
	for at := range 4 {
		for list := range 6 * 6 * 6 {
			numbers := []int{list%6 - 1, list/6%6 - 1, list/36 - 1}
			for length := 1; length <= 3; length++ {
				may := true
				for i, to := range numbers[:length] {
					may = may && to >= 0 && to < 4 && to != at && (i == 0 || to > numbers[i-1])
				}
				needs, after := plain(4), plain(4)
				needs.Nodes[at].Needs, after.Nodes[at].After = numbers[:length], numbers[:length]
				for _, p := range []api.Plan{needs, after} {
					if may {
						wantsCheck(t, "P10.1", p, 0, api.OK)
					} else {
						wantsRefused(t, "P10.1", p, at+1, api.ErrPlanEdge)
					}
				}
			}
		}
	}
}

// P10.1: whichever number stands in both lists, wherever it stands in them.
func TestCheckEdgeInBoth(t *testing.T) {
	for at := range 5 {
		for needs := range 32 {
			for after := range 32 {
				p := plain(5)
				for to := range 5 {
					if to != at && needs>>to&1 == 1 {
						p.Nodes[at].Needs = append(p.Nodes[at].Needs, to)
					}
					if to != at && after>>to&1 == 1 {
						p.Nodes[at].After = append(p.Nodes[at].After, to)
					}
				}
				if needs&after&^(1<<at) == 0 {
					wantsCheck(t, "P10.1", p, 0, api.OK)
				} else {
					wantsRefused(t, "P10.1", p, at+1, api.ErrPlanEdge)
				}
			}
		}
	}
	// In lists of two nodes it may stand.
	wantsCheck(t, "P10.1", of(node("a", nil, nil), node("b", []int{0}, nil), node("c", nil, []int{0})), 0, api.OK)
}

// P10.1: of faults of one plan the one that the chapter tells first; each of two at once, at each two of three nodes.
func TestCheckTwoFaults(t *testing.T) {
	turns := []struct {
		code api.Errno
		turn func(p *api.Plan, at int)
	}{
		{api.ErrPlanName, func(p *api.Plan, at int) { p.Name = "P" }},
		{api.ErrPlanDeadline, func(p *api.Plan, at int) { p.Deadline = 0 }},
		{api.ErrPlanSize, func(p *api.Plan, at int) { p.Nodes[at].After = make([]int, 257) }},
		{api.ErrPlanNode, func(p *api.Plan, at int) { p.Nodes[at].Name = "" }},
		{api.ErrPlanField, func(p *api.Plan, at int) { p.Nodes[at].Jitter = -1 }},
		{api.ErrPlanEdge, func(p *api.Plan, at int) { p.Nodes[at].Needs = []int{at} }},
		{api.ErrPlanCycle, func(p *api.Plan, at int) {
			p.Nodes[at].Needs = []int{(at + 1) % 5}
			p.Nodes[(at+1)%5].After = []int{at}
		}},
	}
	// rank is by which of two comes first: those of the whole, then node by node, then cycles.
	rank := func(kind, at int) int {
		switch {
		case kind < 3:
			return kind
		case kind < 6:
			return 10 + 3*at + kind
		}
		return 1000
	}
	for one := range turns {
		for other := range turns {
			for at := range 5 {
				for also := range 5 {
					if one == other || one == 6 || other == 6 && (also == at || (also+1)%5 == at) {
						continue // the same fault, or a list that is laid anew
					}
					p := plain(5)
					turns[other].turn(&p, also)
					turns[one].turn(&p, at)
					kind, place := one, at
					if rank(other, also) < rank(one, at) {
						kind, place = other, also
					}
					if kind < 3 {
						place = -1
					}
					wantsRefused(t, "P10.1", p, place+1, turns[kind].code)
				}
			}
		}
	}
}

// P10.1: all faults at once, and then one mended after the other, from the first told on.
func TestCheckAllFaults(t *testing.T) {
	p := api.Plan{Name: "-p-\n"}
	for range 70 {
		p.Nodes = append(p.Nodes, api.Node{Name: "n0", Lane: 16, Beat: -1, Jitter: -1, Needs: []int{-1, 70, 7, 7}, After: []int{7}})
	}
	wantsRefused(t, "P10.1", p, 0, api.ErrPlanName)
	p.Name = "p"
	wantsRefused(t, "P10.1", p, 0, api.ErrPlanDeadline)
	p.Deadline = greatest
	wantsRefused(t, "P10.1", p, 0, api.ErrPlanSize)
	p.Nodes = p.Nodes[:64]
	wantsRefused(t, "P10.1", p, 0, api.ErrPlanSize)
	for i := range p.Nodes {
		p.Nodes[i].Needs, p.Nodes[i].After = p.Nodes[i].Needs[2:], nil
	}
	for i := range p.Nodes {
		n := &p.Nodes[i]
		if i > 0 {
			wantsRefused(t, "P10.1", p, i+1, api.ErrPlanNode)
		}
		n.Name = plain(64).Nodes[i].Name
		for k, f := range fields() {
			wantsRefused(t, "P10.1", p, i+1, api.ErrPlanField)
			*f.of(n) = f.least
			if k < 3 {
				*f.of(n) = f.most
			}
		}
		wantsRefused(t, "P10.1", p, i+1, api.ErrPlanEdge)
		n.Needs = []int{(i + 1) % 64}
	}
	wantsRefused(t, "P10.1", p, 1, api.ErrPlanCycle)
	p.Nodes[0].Needs = nil
	wantsCheck(t, "P10.1", p, 0, api.OK)
}

// P10.1: a ring of some nodes, of edges of either kind; lesser ones wait for it, and it for greater ones: its own least node is at fault.
func TestCheckRings(t *testing.T) {
	for nodes := 2; nodes <= 9; nodes++ {
		for first := range nodes {
			for last := first + 1; last < nodes; last++ {
				for kinds := range 4 {
					p := plain(nodes)
					for i := range nodes - 1 {
						lay(p, i, i+1, kinds&1 == 1)
					}
					wantsCheck(t, "P10.1", p, 0, api.OK)
					lay(p, last, first, kinds&2 == 2)
					wantsRefused(t, "P10.1", p, first+1, api.ErrPlanCycle)
					lay(p, last, 0, kinds&2 == 2) // now a way leads back to all that wait for it
					wantsRefused(t, "P10.1", p, 1, api.ErrPlanCycle)
				}
			}
		}
	}
}

// P10.1: two rings, of which the greater one's least node comes first or not; rings of all 64 nodes, and of the last ones of them.
func TestCheckManyRings(t *testing.T) {
	p := plain(9)
	for _, edge := range [][2]int{{8, 6}, {6, 8}, {7, 3}, {3, 5}, {5, 7}, {0, 8}, {1, 7}, {2, 1}} {
		lay(p, edge[0], edge[1], edge[0]%2 == 0)
	}
	wantsRefused(t, "P10.1", p, 4, api.ErrPlanCycle)
	lay(p, 4, 2, true)
	wantsRefused(t, "P10.1", p, 4, api.ErrPlanCycle)
	lay(p, 7, 4, true)
	wantsRefused(t, "P10.1", p, 2, api.ErrPlanCycle)

	for other := 1; other < 64; other++ {
		down, up := line(64, 1), line(64, -1)
		lay(down, 63, other-1, true)
		wantsRefused(t, "P10.1", down, other, api.ErrPlanCycle)
		lay(up, 0, other, true)
		wantsRefused(t, "P10.1", up, 1, api.ErrPlanCycle)
	}
}

// layers has rows of three nodes side by side, each with edges to all three of the next row: so many ways lead down that no call could go all of them.
func layers(rows int, after func(i, k int) bool) api.Plan {
	p := plain(3 * rows)
	for i := range 3 * (rows - 1) {
		for k := range 3 {
			lay(p, i, (i/3+1)*3+k, after(i, k))
		}
	}
	return p
}

// R1: however many ways lead down the edges, each call ends soon.
func TestManyWays(t *testing.T) {
	begun := time.Now()
	for _, after := range []func(i, k int) bool{
		func(i, k int) bool { return false }, func(i, k int) bool { return true }, func(i, k int) bool { return (i+k)%3 == 0 },
	} {
		p := layers(21, after)
		sameAll(t, p)
		p.Nodes[61].Needs = []int{62}
		sameAll(t, p)
		p.Nodes[62].After = []int{61}
		sameAll(t, p)
	}
	dense := edged(256, 3)
	sameAll(t, dense)
	turned := plain(64)
	for i, n := range dense.Nodes {
		for _, to := range bothLists(n) {
			lay(turned, 63-i, 63-to, to%2 == 0)
		}
	}
	sameAll(t, turned)
	if took := time.Since(begun); took > 20*time.Second {
		t.Errorf("R1: it took %v", took)
	}
}

// P10.2: the least of those that can be told comes first, not one that was free before it, nor one that an edge of its own kind let free.
func TestOrderLeast(t *testing.T) {
	for _, c := range []struct {
		edges [][2]int // from, to
		want  []int
	}{
		{nil, []int{0, 1, 2, 3, 4}},
		{[][2]int{{0, 4}}, []int{1, 2, 3, 4, 0}},
		{[][2]int{{0, 1}}, []int{1, 0, 2, 3, 4}},
		{[][2]int{{1, 4}, {0, 2}}, []int{2, 0, 3, 4, 1}},
		{[][2]int{{0, 3}, {1, 2}}, []int{2, 1, 3, 0, 4}},
		{[][2]int{{0, 1}, {1, 2}, {2, 3}, {3, 4}}, []int{4, 3, 2, 1, 0}},
		{[][2]int{{4, 0}, {3, 0}, {2, 0}, {1, 0}}, []int{0, 1, 2, 3, 4}},
		{[][2]int{{0, 1}, {0, 2}, {0, 3}, {0, 4}}, []int{1, 2, 3, 4, 0}},
		{[][2]int{{2, 4}, {0, 2}, {3, 0}}, []int{1, 4, 2, 0, 3}},
		{[][2]int{{1, 3}, {0, 3}, {0, 1}}, []int{2, 3, 1, 0, 4}},
	} {
		for kinds := range 1 << len(c.edges) {
			p := plain(5)
			for i, edge := range c.edges {
				lay(p, edge[0], edge[1], kinds>>i&1 == 1)
			}
			wantsOrder(t, "P10.2", p, c.want, api.OK)
		}
	}
	for nodes := 1; nodes <= 64; nodes++ {
		up, down := make([]int, nodes), make([]int, nodes)
		for i := range nodes {
			up[i], down[i] = i, nodes-1-i
		}
		wantsOrder(t, "P10.2", plain(nodes), up, api.OK)
		wantsOrder(t, "P10.2", line(nodes, -1), up, api.OK)
		wantsOrder(t, "P10.2", line(nodes, 1), down, api.OK)
	}
}

// P10.3: who needs each node, over however many steps; After does not count, nor what is needed by it.
func TestBelow(t *testing.T) {
	for nodes := 1; nodes <= 64; nodes++ {
		for i := range nodes {
			var less, more []int
			for k := range nodes {
				if k < i {
					less = append(less, k)
				} else if k > i {
					more = append(more, k)
				}
			}
			wantsBelow(t, "P10.3", plain(nodes), i, nil, api.OK)
			wantsBelow(t, "P10.3", line(nodes, 1), i, less, api.OK)
			wantsBelow(t, "P10.3", line(nodes, -1), i, more, api.OK)
		}
	}
	p := plain(6) // 5 needs 4, 4 stands after 3, 3 needs 1, 2 needs 1 and stands after 0, 1 needs 0
	p.Nodes[5].Needs, p.Nodes[4].After, p.Nodes[3].Needs, p.Nodes[1].Needs = []int{4}, []int{3}, []int{1}, []int{0}
	p.Nodes[2].Needs, p.Nodes[2].After = []int{1}, []int{0}
	for i, want := range [][]int{{1, 2, 3}, {2, 3}, nil, nil, {5}, nil} {
		wantsBelow(t, "P10.3", p, i, want, api.OK)
	}
	for i := range p.Nodes { // all turned: nobody needs
		n := &p.Nodes[i]
		n.Needs, n.After = n.After, n.Needs
	}
	for i, want := range [][]int{{2}, nil, nil, {4}, nil, nil} {
		wantsBelow(t, "P10.3", p, i, want, api.OK)
	}
}

// P10.3: numbers that are no node's, of plans of each size; where the plan may not be, its error comes first.
func TestBelowNone(t *testing.T) {
	for _, nodes := range []int{1, 2, 5, 63, 64} {
		for _, i := range append(numbers(), nodes-1, nodes, nodes+1) {
			want := api.ErrPlanNode
			if i >= 0 && i < nodes {
				want = api.OK
			}
			wantsBelow(t, "P10.3", plain(nodes), i, nil, want)
			p := plain(nodes)
			p.Nodes[nodes-1].Budget = 0
			wantsBelow(t, "P10.3", p, i, nil, api.ErrPlanField)
		}
	}
	for _, i := range numbers() {
		wantsBelow(t, "P10.3", of(), i, nil, api.ErrPlanSize)
	}
}

// P10.4: each field of the plan and of each node, turned alone.
func TestSameFields(t *testing.T) {
	fresh := func() api.Plan {
		p := plain(3)
		for i := range p.Nodes {
			p.Nodes[i].Needs, p.Nodes[i].After = []int{3, 1, 1}, []int{-7, 9}
		}
		return p
	}
	wantsSame(t, "P10.4", fresh(), fresh(), true)
	for _, turn := range []func(p *api.Plan){
		func(p *api.Plan) { p.Name = "" }, func(p *api.Plan) { p.Name = "P" }, func(p *api.Plan) { p.Name = "p " }, func(p *api.Plan) { p.Name = "q" },
		func(p *api.Plan) { p.Deadline++ }, func(p *api.Plan) { p.Deadline = -p.Deadline }, func(p *api.Plan) { p.Deadline += 1 << 32 },
		func(p *api.Plan) { p.Nodes = nil }, func(p *api.Plan) { p.Nodes = p.Nodes[:2] }, func(p *api.Plan) { p.Nodes = p.Nodes[1:] },
		func(p *api.Plan) { p.Nodes = append(p.Nodes, api.Node{}) }, func(p *api.Plan) { slices.Reverse(p.Nodes) },
	} {
		p := fresh()
		turn(&p)
		wantsSame(t, "P10.4", p, fresh(), false)
	}
	for _, turn := range []func(n *api.Node){
		func(n *api.Node) { n.Name = "" }, func(n *api.Node) { n.Name = strings.ToUpper(n.Name) }, func(n *api.Node) { n.Name += "\x00" },
		func(n *api.Node) { n.Needs = nil }, func(n *api.Node) { n.Needs = n.Needs[:2] }, func(n *api.Node) { n.Needs = n.Needs[1:] },
		func(n *api.Node) { n.Needs = append(n.Needs, 0) }, func(n *api.Node) { n.Needs = []int{1, 1, 3} }, func(n *api.Node) { n.Needs = []int{3, 1, 2} },
		func(n *api.Node) { n.After = nil }, func(n *api.Node) { n.After = n.After[:1] }, func(n *api.Node) { n.After = n.After[1:] },
		func(n *api.Node) { n.After = append(n.After, 0) }, func(n *api.Node) { n.After = []int{9, -7} }, func(n *api.Node) { n.After = []int{-7, 9 + 1<<32} },
		func(n *api.Node) { n.Needs, n.After = n.After, n.Needs }, func(n *api.Node) { n.Needs, n.After = append(n.Needs, n.After[0]), n.After[1:] },
	} {
		differs(t, fresh, turn)
	}
	for _, f := range fields() {
		for _, add := range []int{1, -1, 1 << 8, 1 << 16, 1 << 32, 1 << 62, math.MinInt} {
			differs(t, fresh, func(n *api.Node) { *f.of(n) += add })
		}
	}
}

// differs turns the first, a middle and the last node, and all.
func differs(t *testing.T, fresh func() api.Plan, turn func(n *api.Node)) {
	t.Helper()
	all := fresh()
	for i := range all.Nodes {
		p := fresh()
		turn(&p.Nodes[i])
		wantsSame(t, "P10.4", p, fresh(), false)
		turn(&all.Nodes[i])
		wantsSame(t, "P10.4", all, fresh(), false)
		wantsSame(t, "P10.4", all, copyOf(all), true)
	}
}

// P10.4: a number that moves from one field to another one is told.
func TestSameMoved(t *testing.T) {
	var all []api.Plan
	for _, f := range fields() {
		n := api.Node{}
		*f.of(&n) = 5
		all = append(all, of(n))
	}
	all = append(all, of(api.Node{Needs: []int{5}}), of(api.Node{After: []int{5}}), of(api.Node{Name: "5"}), of(api.Node{}), of(), of(api.Node{}, api.Node{}),
		of(api.Node{Needs: []int{5, 5}}), of(api.Node{Needs: []int{5}, After: []int{5}}), of(api.Node{Needs: []int{5}}, api.Node{}), of(api.Node{}, api.Node{Needs: []int{5}}),
		api.Plan{}, api.Plan{Name: "5"}, api.Plan{Deadline: 5})
	for i, a := range all {
		for k, b := range all {
			wantsSame(t, "P10.4", a, copyOf(b), i == k)
		}
	}
}

// P10.4: a list without numbers and none at all are the same, in each of the three lists; capacities do not show.
func TestSameEmpty(t *testing.T) {
	lists := [][]int{nil, {}, make([]int, 0, 5), []int{1, 2}[:0]}
	for _, a := range lists {
		for _, b := range lists {
			wantsSame(t, "P10.4", of(node("a", a, []int{1})), of(node("a", b, []int{1})), true)
			wantsSame(t, "P10.4", of(node("a", []int{1}, a)), of(node("a", []int{1}, b)), true)
			wantsSame(t, "P10.4", of(node("a", a, b)), of(node("a", b, a)), true)
			wantsSame(t, "P10.4", of(node("a", a, nil)), of(node("a", []int{0}, b)), false)
		}
	}
	nodes := [][]api.Node{nil, {}, make([]api.Node, 0, 5), plain(2).Nodes[:0]}
	for _, a := range nodes {
		for _, b := range nodes {
			wantsSame(t, "P10.4", api.Plan{Nodes: a}, api.Plan{Nodes: b}, true)
			wantsSame(t, "P10.4", api.Plan{Nodes: a}, api.Plan{Nodes: append(b, api.Node{})}, false)
		}
	}
	spare := append(make([]int, 0, 9), 1, 2)
	wantsSame(t, "P10.4", of(node("a", spare, nil)), of(node("a", []int{1, 2}, nil)), true)
}

// P10.4: plans that may not be, however great.
func TestSameAny(t *testing.T) {
	bad := api.Plan{Name: "\xff\x00 ", Deadline: math.MinInt, Nodes: []api.Node{{Name: strings.Repeat("é", 1000), Lane: -1, Needs: []int{math.MaxInt, math.MinInt}, After: []int{0, 0}}, {}, {}}}
	wantsSame(t, "P10.4", bad, copyOf(bad), true)
	wantsSame(t, "P10.4", bad, bad, true)
	other := copyOf(bad)
	other.Name = "\xfe\x00 " // as texts of runes the two would be alike
	wantsSame(t, "P10.4", bad, other, false)
	great := plain(1 << 12)
	for i := range great.Nodes {
		great.Nodes[i].Needs = make([]int, 300)
	}
	also := copyOf(great)
	wantsSame(t, "P10.4", great, also, true)
	also.Nodes[1<<12-1].Needs[299] = 1
	wantsSame(t, "P10.4", great, also, false)
	also.Nodes[1<<12-1].Needs[299] = 0
	also.Nodes[1<<11].Needs[0] = 1
	wantsSame(t, "P10.4", great, also, false)
}

// roomy is a plan with spare room behind each of its lists, and what lies there.
func roomy(p api.Plan) (plan, whole api.Plan) {
	whole = copyOf(p)
	for i := range whole.Nodes {
		n := &whole.Nodes[i]
		n.Needs, n.After = append(n.Needs, 77, 78), append(n.After, 79)
	}
	whole.Nodes = append(whole.Nodes, api.Node{Name: "spare", Needs: []int{1}})
	plan = whole
	plan.Nodes = whole.Nodes[:len(p.Nodes)]
	return plan, whole
}

// R4: what is handed in is not changed, its spare room neither, whether the plan may be or not.
func TestPlanUnchanged(t *testing.T) {
	for _, turn := range []func(p *api.Plan){
		func(p *api.Plan) {}, func(p *api.Plan) { p.Name = "" }, func(p *api.Plan) { p.Nodes[2].Close = 0 }, func(p *api.Plan) { p.Nodes[3].Needs = []int{2, 1} },
		func(p *api.Plan) { p.Nodes[3].Needs = []int{0, 0, 1, 2} }, func(p *api.Plan) { p.Nodes[3].After = []int{2, 0, 1} }, func(p *api.Plan) { p.Nodes[0].Needs = []int{4} },
	} {
		p := line(5, -1)
		p.Nodes[4].Needs, p.Nodes[4].After = []int{1, 2}, []int{0, 3}
		turn(&p)
		given, whole := roomy(p)
		for i := range given.Nodes {
			n := &given.Nodes[i]
			n.Needs, n.After = n.Needs[:len(p.Nodes[i].Needs)], n.After[:len(p.Nodes[i].After)]
		}
		want := copyOf(whole)
		room := func() (all [][]int) {
			for _, n := range given.Nodes {
				all = append(all, slices.Clone(n.Needs[:cap(n.Needs)]), slices.Clone(n.After[:cap(n.After)]))
			}
			return all
		}
		before := room()
		Check(given)
		Order(given)
		for i := -1; i <= 5; i++ {
			Below(given, i)
		}
		Same(given, p)
		Same(p, given)
		if !reflect.DeepEqual(whole, want) || !reflect.DeepEqual(room(), before) {
			t.Errorf("R4: the plan was %+v, is %+v", want, whole)
		}
	}
}

// R4: what is answered is new memory: whoever writes into it, or behind it, changes neither the plan nor a later answer.
func TestAnswersNew(t *testing.T) {
	p := line(9, 1)
	p.Nodes[0].Needs, p.Nodes[0].After = []int{1, 2, 3, 4, 5, 6, 7, 8}, nil
	want := copyOf(p)
	spoil := func(list []int) {
		list = list[:cap(list)]
		for i := range list {
			list[i] = -1
		}
	}
	for range 3 {
		order, _ := Order(p)
		wantsOrder(t, "R4", p, []int{8, 7, 6, 5, 4, 3, 2, 1, 0}, api.OK)
		spoil(order)
		for i := range p.Nodes {
			below, _ := Below(p, i)
			again, _ := Below(p, i)
			spoil(below)
			if len(again) != i || i > 0 && again[i-1] != i-1 {
				t.Errorf("R4: Below(%d) is %v when another answer was written over", i, again)
			}
		}
		if !reflect.DeepEqual(p, want) {
			t.Fatalf("R4: the plan was %+v, is %+v", want, p)
		}
	}
}

// R4, R5: nothing is kept: a plan that is written over is another one; what was asked before does not show.
func TestNothingKept(t *testing.T) {
	p := line(4, -1)
	for range 3 {
		wantsOrder(t, "R5", p, []int{0, 1, 2, 3}, api.OK)
		p.Nodes[0].Needs = []int{3}
		wantsRefused(t, "R5", p, 1, api.ErrPlanCycle)
		p.Nodes[1].Needs[0] = 2
		wantsRefused(t, "R5", p, 2, api.ErrPlanCycle)
		p.Nodes[2].Needs = nil
		wantsOrder(t, "R5", p, []int{2, 1, 3, 0}, api.OK)
		wantsBelow(t, "R5", p, 2, []int{0, 1, 3}, api.OK)
		p = line(4, -1)
	}
}

// R5: plans whose lists lie in one piece of memory are like those whose lists do not.
func TestSharedLists(t *testing.T) {
	room := []int{0, 1, 2, 3, 4, 5, 6, 7}
	p := plain(9)
	for i := range p.Nodes {
		p.Nodes[i].Needs, p.Nodes[i].After = room[:i/2], room[i/2:i]
	}
	sameAll(t, p)
	wantsSame(t, "P10.4", p, copyOf(p), true)
}
