package crew

import (
	"encoding/hex"
	"fmt"
	"math"
	"slices"
	"strings"
	"testing"

	"escapement/api"
	"escapement/plan"
)

// The promises P19.1 and P19.2.

func bytesOf(texts ...string) (list [][]byte) {
	for _, text := range texts {
		list = append(list, []byte(text))
	}
	return list
}

func works(t *testing.T, name string, inputs ...string) {
	t.Helper()
	got, want := Work(name, bytesOf(inputs...)), modelWork(name, inputs...)
	if string(got) != want {
		t.Fatalf("P19.1: Work(%.40q, %d inputs): %x; want %x", name, len(inputs), got, want)
	}
}

func TestWorkExamples(t *testing.T) {
	for _, x := range []struct {
		name   string
		inputs [][]byte
		want   string
	}{
		{"", nil, "00000000"},
		{"", [][]byte{}, "00000000"},
		{"a", nil, "c1d04330"},
		{"a", [][]byte{}, "c1d04330"},
		{"a", [][]byte{nil}, "625fcaa3"},
		{"a", [][]byte{{}}, "625fcaa3"},
		{"b", [][]byte{Work("a", nil)}, "04a3bec3"},
		{"a", [][]byte{{1, 2}, {}}, "6cf94771"},
		{"a", [][]byte{{1, 2}, nil}, "6cf94771"},
		{"123456789", nil, "e3069283"}, // chapter 1 has its sum
	} {
		if got := hex.EncodeToString(Work(x.name, x.inputs)); got != x.want {
			t.Errorf("P19.1: Work(%q, %x): %s; want %s", x.name, x.inputs, got, x.want)
		}
	}
}

// Names of any bytes, and inputs of any number, length and bytes.
func TestWork(t *testing.T) {
	r := chance(1)
	any := func(length int) string {
		b := make([]byte, length)
		r.Read(b)
		return string(b)
	}
	sizes := []int{0, 1, 2, 3, 4, 5, 63, 64, 65, 127, 128, 200, 254, 255, 256, 257, 300, 511, 512, 513, 65535, 65536, 65537, 1<<20 + 7}
	for _, size := range sizes {
		works(t, any(size))
		works(t, "a", any(size))
		works(t, "", any(size))
		works(t, any(size), any(7), any(size), "")
		works(t, "n", strings.Repeat("\x00", size), strings.Repeat("\xff", size))
	}
	for _, name := range []string{"a", "-", "_", ".", "A", "\x00", "\x00\x00", "\xff", "é", "\xc3", "日本", "a b", "a\n", strings.Repeat("z", 40), strings.Repeat("z", 41)} {
		works(t, name)
		works(t, name, "")
		works(t, name, name, "", name)
	}
	for count := range 300 {
		works(t, "n", make([]string, count)...)
		works(t, "n", slices.Repeat([]string{any(4)}, count)...)
	}
	for range 2000 {
		inputs := make([]string, r.Intn(6))
		for i := range inputs {
			inputs[i] = any([]int{r.Intn(8), 4, r.Intn(300), r.Intn(600)}[r.Intn(4)])
		}
		works(t, any(r.Intn(50)), inputs...)
	}
}

// Of a length only the lowest byte stands in the text: so many inputs have the text of others.
func TestWorkTexts(t *testing.T) {
	long := strings.Repeat("q", 600)
	same := func(a, b []byte) {
		t.Helper()
		if string(a) != string(b) || len(a) != 4 {
			t.Errorf("P19.1: %x, and %x", a, b)
		}
	}
	unlike := func(a, b []byte) {
		t.Helper()
		if string(a) == string(b) || len(a) != 4 || len(b) != 4 {
			t.Errorf("P19.1: %x, and %x", a, b)
		}
	}
	same(Work("a", bytesOf("\xff"+long[:255])), Work("a", bytesOf("", long[:255])))
	same(Work("a", bytesOf(long[:256])), Work("a\x00"+long[:256], nil))
	same(Work("a", bytesOf(long[:257])), Work("a\x01"+long[:257], nil))
	same(Work("a", bytesOf(long[:512])), Work("a\x00"+long[:512], nil))
	same(Work("a", bytesOf(long[:600], "b")), Work("a\x58"+long[:600]+"\x01b", nil))
	same(Work("a\x00", nil), Work("a", bytesOf("")))
	same(Work("a", bytesOf("b")), Work("a\x01b", nil))
	same(Work("", bytesOf("ab", "")), Work("\x02ab\x00", nil))
	unlike(Work("a", nil), Work("a", bytesOf("")))
	unlike(Work("a", bytesOf("")), Work("a", bytesOf("", "")))
	unlike(Work("a", bytesOf("b", "c")), Work("a", bytesOf("c", "b")))
	unlike(Work("a", bytesOf("bc")), Work("a", bytesOf("b", "c")))
	unlike(Work("a", bytesOf("b")), Work("ab", nil))
	unlike(Work("a", bytesOf(long[:255])), Work("a", bytesOf(long[:256])))
}

func results(t *testing.T, p api.Plan) []string {
	t.Helper()
	list, code := Results(p)
	if code != api.OK {
		t.Fatalf("P19.2: Results of %+v: %d", p, code)
	}
	var words []string
	for _, b := range list {
		words = append(words, hex.EncodeToString(b))
	}
	return words
}

// comeOut holds what comes of a plan against the model.
func comeOut(t *testing.T, p api.Plan) {
	t.Helper()
	want := modelResults(p)
	for i := range want {
		want[i] = hex.EncodeToString([]byte(want[i]))
	}
	if got := results(t, p); !slices.Equal(got, want) {
		t.Fatalf("P19.2: Results of %+v: %s; want %s", p, got, want)
	}
}

func TestResultsExamples(t *testing.T) {
	want := []string{"c1d04330", "04a3bec3", "d745d2b0"}
	if got := results(t, of(nodeOf("a"), nodeOf("b", 0), nodeOf("c", 0, 1))); !slices.Equal(got, want) {
		t.Errorf("P19.2: %s; want %s", got, want)
	}
	if got := results(t, line()); !slices.Equal(got, want[:2]) {
		t.Errorf("P19.2: %s; want %s", got, want[:2])
	}
	// By the nodes' numbers, not in the order in which they are known.
	if got := results(t, of(nodeOf("b", 1), nodeOf("a"))); !slices.Equal(got, []string{want[1], want[0]}) {
		t.Errorf("P19.2: %s", got)
	}
}

// refusedPlans has each of plan.Check's errors, alone and ahead of others.
func refusedPlans() map[string]api.Plan {
	bad := func(turn func(p *api.Plan)) api.Plan {
		p := of(nodeOf("a"), nodeOf("b", 0), nodeOf("c", 0, 1))
		turn(&p)
		return p
	}
	return map[string]api.Plan{
		"nothing":            {},
		"no name":            bad(func(p *api.Plan) { p.Name = "" }),
		"a name of 41":       bad(func(p *api.Plan) { p.Name, p.Nodes = strings.Repeat("p", 41), nil }),
		"a great name":       bad(func(p *api.Plan) { p.Name, p.Deadline = "P", 0 }),
		"no deadline":        bad(func(p *api.Plan) { p.Deadline = 0 }),
		"a deadline below":   bad(func(p *api.Plan) { p.Deadline = math.MinInt }),
		"a deadline above":   bad(func(p *api.Plan) { p.Deadline, p.Nodes = 1<<40+1, nil }),
		"no nodes":           of(),
		"65 nodes":           plain(65),
		"257 edges":          bad(func(p *api.Plan) { p.Nodes[2].Needs = make([]int, 257) }),
		"a node's name":      bad(func(p *api.Plan) { p.Nodes[1].Name = "B" }),
		"a node's name 41":   bad(func(p *api.Plan) { p.Nodes[1].Name = strings.Repeat("b", 41) }),
		"a name twice":       bad(func(p *api.Plan) { p.Nodes[2].Name = "a" }),
		"a lane":             bad(func(p *api.Plan) { p.Nodes[0].Lane = 16 }),
		"a lane below":       bad(func(p *api.Plan) { p.Nodes[0].Lane = -1 }),
		"no budget":          bad(func(p *api.Plan) { p.Nodes[0].Budget = 0 }),
		"a budget":           bad(func(p *api.Plan) { p.Nodes[0].Budget = 101 }),
		"a close":            bad(func(p *api.Plan) { p.Nodes[2].Close = 0 }),
		"a beat":             bad(func(p *api.Plan) { p.Nodes[2].Beat = -1 }),
		"a base":             bad(func(p *api.Plan) { p.Nodes[2].Base = 9 }),
		"a cap":              bad(func(p *api.Plan) { p.Nodes[2].Cap = 1<<40 + 1 }),
		"a jitter":           bad(func(p *api.Plan) { p.Nodes[2].Jitter = -1 }),
		"an edge to none":    bad(func(p *api.Plan) { p.Nodes[2].Needs = []int{3} }),
		"an edge below":      bad(func(p *api.Plan) { p.Nodes[2].Needs = []int{-1} }),
		"an edge far":        bad(func(p *api.Plan) { p.Nodes[0].Needs = []int{math.MaxInt} }),
		"an edge far below":  bad(func(p *api.Plan) { p.Nodes[0].After = []int{math.MinInt} }),
		"its own":            bad(func(p *api.Plan) { p.Nodes[2].Needs = []int{2} }),
		"after its own":      bad(func(p *api.Plan) { p.Nodes[2].After = []int{2} }),
		"falling edges":      bad(func(p *api.Plan) { p.Nodes[2].Needs = []int{1, 0} }),
		"an edge twice":      bad(func(p *api.Plan) { p.Nodes[2].Needs = []int{1, 1} }),
		"in both lists":      bad(func(p *api.Plan) { p.Nodes[2].After = []int{1} }),
		"a cycle":            bad(func(p *api.Plan) { p.Nodes[0].Needs = []int{2} }),
		"a cycle by After":   bad(func(p *api.Plan) { p.Nodes[0].After = []int{2} }),
		"a cycle of Afters":  of(api.Node{Name: "a", Budget: 1, Close: 1, Base: 1, Cap: 1, After: []int{1}}, api.Node{Name: "b", Budget: 1, Close: 1, Base: 1, Cap: 1, After: []int{0}}),
		"edges ahead of all": bad(func(p *api.Plan) { p.Nodes[0].Needs, p.Nodes[1].Name = []int{7}, "" }),
	}
}

// Each of plan.Check's errors goes up, and no results with it.
func TestResultsRefused(t *testing.T) {
	seen := map[api.Errno]int{}
	for what, p := range refusedPlans() {
		list, code := Results(p)
		_, want := plan.Check(p)
		if len(list) != 0 || code != want {
			t.Errorf("P19.2, %s: %x, %d; want %d", what, list, code, want)
		}
		seen[code]++
	}
	for code := api.ErrPlanName; code <= api.ErrPlanCycle; code++ {
		if seen[code] == 0 {
			t.Errorf("P19.2: no plan of this test is refused by %d: %v", code, seen)
		}
	}
	if seen[api.OK] != 0 {
		t.Errorf("P19.2: %d plans are let pass", seen[api.OK])
	}
}

// orders are all in which so many things can stand.
func orders(n int) [][]int {
	if n == 0 {
		return [][]int{nil}
	}
	var all [][]int
	for _, short := range orders(n - 1) {
		for at := range n {
			all = append(all, slices.Insert(slices.Clone(short), at, n-1))
		}
	}
	return all
}

// turned is a plan whose node i stands at the place to[i].
func turned(p api.Plan, to []int) api.Plan {
	q := p
	q.Nodes = make([]api.Node, len(p.Nodes))
	move := func(edges []int) (list []int) {
		for _, on := range edges {
			list = append(list, to[on])
		}
		slices.Sort(list)
		return list
	}
	for i, n := range p.Nodes {
		n.Needs, n.After = move(n.Needs), move(n.After)
		q.Nodes[to[i]] = n
	}
	return q
}

// Nodes that need others in any order of their numbers.
func TestResultsOrders(t *testing.T) {
	tree := of(nodeOf("a"), nodeOf("b", 0), nodeOf("c", 0, 1), nodeOf("d"), nodeOf("e", 1, 2, 3))
	tree.Nodes[3].After = []int{1}
	for _, to := range orders(5) {
		comeOut(t, turned(tree, to))
	}
	ahead := results(t, row(64))
	for _, to := range [][]int{chance(2).Perm(64), chance(3).Perm(64)} {
		p := turned(row(64), to)
		comeOut(t, p)
		for i, want := range ahead {
			if got := results(t, p)[to[i]]; got != want {
				t.Errorf("P19.2: node %d of a row stands at %d: %s; want %s", i, to[i], got, want)
			}
		}
	}
	back := make([]int, 64)
	for i := range back {
		back[i] = 63 - i
	}
	got := results(t, turned(row(64), back))
	slices.Reverse(got)
	if !slices.Equal(got, ahead) {
		t.Errorf("P19.2: a row that is turned: %s; want %s", got, ahead)
	}
}

// As many nodes and edges as may be: many ways lead down, but each node is done once.
func TestResultsGreat(t *testing.T) {
	p := plain(64)
	for i := range p.Nodes {
		for on := max(0, i-4); on < i; on++ {
			p.Nodes[i].Needs = append(p.Nodes[i].Needs, on)
		}
	}
	comeOut(t, p)
	comeOut(t, turned(p, chance(4).Perm(64)))
	wide := plain(64)
	for on := range 63 {
		wide.Nodes[63].Needs = append(wide.Nodes[63].Needs, on)
	}
	comeOut(t, wide)
	comeOut(t, plain(1))
	comeOut(t, plain(64))
	for seed := range 50 {
		comeOut(t, anyPlan(chance(seed), 64))
	}
}

// After does not count, nor does anything else of a plan but names and Needs; an empty list is none.
func TestResultsOfNeeds(t *testing.T) {
	r := chance(6)
	for range 500 {
		p := anyPlan(r, 12)
		comeOut(t, p)
		want := results(t, p)
		q := p
		q.Name, q.Deadline, q.Nodes = "other", 1<<40, nil
		for _, n := range p.Nodes {
			n = api.Node{Name: n.Name, Lane: 15 - n.Lane, Budget: 100, Close: 1 << 40, Beat: 7, Base: 1, Cap: 1 << 40, Jitter: 9, Needs: slices.Clone(n.Needs), After: []int{}}
			if len(n.Needs) == 0 {
				n.Needs = []int{}
			}
			q.Nodes = append(q.Nodes, n)
		}
		if got := results(t, q); !slices.Equal(got, want) {
			t.Fatalf("P19.2: %s; want %s", got, want)
		}
	}
	p := of(nodeOf("a"), nodeOf("b"))
	ahead := results(t, p)
	p.Nodes[0].After = []int{1}
	if got := results(t, p); !slices.Equal(got, ahead) || slices.Equal(got, results(t, of(nodeOf("a", 1), nodeOf("b")))) {
		t.Errorf("P19.2: a that stands after b: %s; want %s", got, ahead)
	}
}

// A result is of its node's name and of those that it needs alone: a name that is turned turns it, and those of all who need it.
func TestResultsOfNames(t *testing.T) {
	r := chance(7)
	for range 100 {
		p := anyPlan(r, 10)
		want := results(t, p)
		node := r.Intn(len(p.Nodes))
		below, _ := plan.Below(p, node)
		p.Nodes[node].Name = "another"
		for i, got := range results(t, p) {
			if turned := i == node || slices.Contains(below, i); turned == (got == want[i]) {
				t.Fatalf("P19.2: node %d has another name: of node %d comes %s; it was %s", node, i, got, want[i])
			}
		}
	}
}

// Results are Work of results, in the order in which they stand in Needs.
func TestResultsLikeWork(t *testing.T) {
	p := of(nodeOf("x", 2), nodeOf("y", 0, 2), nodeOf("z"))
	z := Work("z", nil)
	x := Work("x", [][]byte{z})
	y := Work("y", [][]byte{x, z})
	if got, want := fmt.Sprint(results(t, p)), fmt.Sprintf("[%x %x %x]", x, y, z); got != want {
		t.Errorf("P19.2: %s; want %s", got, want)
	}
}
