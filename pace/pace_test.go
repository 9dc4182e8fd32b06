package pace

import (
	"math"
	"reflect"
	"slices"
	"testing"

	"escapement/api"
)

// The chapter's examples, row by row.
func TestExamples(t *testing.T) {
	for _, c := range []struct{ luck, x, want uint64 }{
		{0, 0, 16294208416658607535}, {0, 1, 16490336266968443936}, {1, 0, 10451216379200822465}, {1<<64 - 1, 5, 13935469284678123066},
	} {
		if got := Mix(c.luck, c.x); got != c.want {
			t.Errorf("examples: Mix(%d, %d): %d; want %d", c.luck, c.x, got, c.want)
		}
	}
	for _, c := range [][4]int{
		{4, 8, 1, 4}, {4, 8, 2, 8}, {4, 8, 3, 8}, {4, 3, 1, 3}, {3, 100, 4, 24}, {3, 100, 7, 100}, {0, 100, 1000000, 0},
		{1, 1 << 40, 41, 1 << 40}, {1, 1 << 40, 40, 1 << 39},
	} {
		wantsDelay(t, "examples", c[0], c[1], c[2], c[3], api.OK)
	}
	for _, c := range [][3]int{{1, 1, 0}, {-1, 1, 1}, {1, 1<<40 + 1, 1}} {
		wantsDelay(t, "examples", c[0], c[1], c[2], 0, api.ErrPaceArg)
	}
	for _, c := range [][6]int{{0, 1, 0, 1, 9, 9}, {0, 1, 0, 2, 9, 8}, {0, 2, 0, 1, 9, 9}, {7, 1, 0, 1, 9, 5}, {0, 1, 0, 1, 0, 0}} {
		wantsJitter(t, "examples", uint64(c[0]), c[1], c[2], c[3], c[4], c[5], api.OK)
	}
	wantsJitter(t, "examples", 0, -1, 0, 1, 9, 0, api.ErrPaceArg)
	wantsWait(t, "examples", api.Node{Base: 4, Cap: 8, Jitter: 9}, 0, 1, 0, 1, 13, api.OK)

	n := api.Node{Budget: 2, Close: 10, Cap: 8, Jitter: 0}
	p := api.Plan{Deadline: 1000, Nodes: []api.Node{n, n}}
	wantsBound(t, "examples", p, 5, 1, 112, api.OK)
	wantsBound(t, "examples", api.Plan{Deadline: 100, Nodes: p.Nodes}, 5, 1, 100, api.OK)
	wantsBound(t, "examples", p, 0, 1, 0, api.ErrPaceArg)
	wantsBound(t, "examples", p, 5, 1025, 0, api.ErrPaceArg)
	wantsBound(t, "examples", api.Plan{Deadline: 7}, 1, 0, 0, api.OK)
}

// P9.1: numbers that were worked out elsewhere: with x 0 it is a known generator, which goes on by its step.
func TestMixKnown(t *testing.T) {
	const step = 0x9e3779b97f4a7c15
	luck := uint64(0)
	for _, want := range []uint64{0xe220a8397b1dcdaf, 0x6e789e6aa1b965f4, 0x06c45d188009454f, 0xf88bb8a8724c81ec, 0x1b39896a51a8749b} {
		if got := Mix(luck, 0); got != want {
			t.Errorf("P9.1: Mix(%x, 0): %x; want %x", luck, got, want)
		}
		luck += step
	}
	luck = 1234567
	for _, want := range []uint64{6457827717110365317, 3203168211198807973, 9817491932198370423, 4593380528125082431, 16408922859458223821} {
		if got := Mix(luck, 0); got != want {
			t.Errorf("P9.1: Mix(%x, 0): %x; want %x", luck, got, want)
		}
		luck += step
	}
}

// P9.1: the one word of which nothing is left: all of z is 0; and words whose sum just runs over, or just does not.
func TestMixNought(t *testing.T) {
	for _, c := range []struct{ luck, x, want uint64 }{
		{0x61c8864680b583eb, 0, 0}, {0, 0x9e3779b97f4a7c15, 0}, {1, 0x9e3779b97f4a7c16, 0}, {math.MaxUint64, 0x9e3779b97f4a7c14, 0},
		{0x61c8864680b583ea, math.MaxUint64, 0}, {0x61c8864680b583ec, 1, 0}, {0x61c8864680b583ea, 0, modelMix(0x61c8864680b583ea, 0)},
		{0x61c8864680b583ec, 0, modelMix(0x61c8864680b583ec, 0)}, {1, 2, 16490336266968443936},
	} {
		if got := Mix(c.luck, c.x); got != c.want {
			t.Errorf("P9.1: Mix(%x, %x): %x; want %x", c.luck, c.x, got, c.want)
		}
	}
}

// P9.1: beside the chapter's words with numbers of any length.
func TestMix(t *testing.T) {
	t.Parallel()
	same := func(luck, x uint64) {
		if got, want := Mix(luck, x), modelMix(luck, x); got != want {
			t.Fatalf("P9.1: Mix(%x, %x): %x; want %x", luck, x, got, want)
		}
	}
	all := words()
	for _, luck := range all {
		for _, x := range all {
			same(luck, x)
		}
	}
	r := chance(1)
	for range 100000 {
		same(r.Uint64(), r.Uint64()>>r.Intn(64))
	}
}

// P9.2: each number that may not be, alone and with others; beside the ends that may.
func TestDelayRefused(t *testing.T) {
	may := []int{0, 1, 7, greatest - 1, greatest}
	counts := []int{1, 2, 41, math.MaxInt}
	for _, bad := range noDelays() {
		for _, good := range may {
			for _, k := range counts {
				wantsDelay(t, "P9.2", bad, good, k, 0, api.ErrPaceArg)
				wantsDelay(t, "P9.2", good, bad, k, 0, api.ErrPaceArg)
				wantsDelay(t, "P9.2", bad, bad, k, 0, api.ErrPaceArg)
			}
		}
		wantsDelay(t, "P9.2", bad, bad, 0, 0, api.ErrPaceArg)
	}
	for _, k := range append(negatives(), 0) {
		for _, base := range may {
			for _, most := range may {
				wantsDelay(t, "P9.2", base, most, k, 0, api.ErrPaceArg)
			}
		}
	}
}

// P9.2: at its greatest, and where one doubling is the last that counts.
func TestDelayEdges(t *testing.T) {
	for _, c := range [][4]int{
		{0, 0, 1, 0}, {0, 0, 2, 0}, {0, greatest, 1, 0}, {0, greatest, 41, 0}, {1, 0, 1, 0}, {greatest, 0, 1, 0}, {greatest, 0, 50, 0},
		{1, 1, 1, 1}, {1, 1, 2, 1}, {1, 2, 1, 1}, {1, 2, 2, 2}, {1, 2, 3, 2}, {1, 3, 2, 2}, {1, 3, 3, 3}, {2, 1, 1, 1}, {2, 1, 2, 1},
		{greatest, greatest, 1, greatest}, {greatest, greatest, 2, greatest}, {greatest, 1, 1, 1}, {greatest - 1, greatest, 1, greatest - 1},
		{greatest - 1, greatest, 2, greatest}, {greatest / 2, greatest, 1, greatest / 2}, {greatest / 2, greatest, 2, greatest},
		{greatest/2 - 1, greatest, 2, greatest - 2}, {greatest/2 - 1, greatest, 3, greatest}, {greatest / 2, greatest - 1, 2, greatest - 1},
		{1, greatest, 39, 1 << 38}, {1, greatest, 40, 1 << 39}, {1, greatest, 41, greatest}, {1, greatest, 42, greatest},
		{1, greatest - 1, 40, 1 << 39}, {1, greatest - 1, 41, greatest - 1}, {3, greatest, 39, 3 << 38}, {3, greatest, 40, greatest},
		{5, greatest, 38, 5 << 37}, {5, greatest, 39, greatest},
	} {
		wantsDelay(t, "P9.2", c[0], c[1], c[2], c[3], api.OK)
	}
}

// P9.2: however great k is, also where 2^(k - 1) is none of an int's numbers, or k's low bits are small.
func TestDelayGreatCounts(t *testing.T) {
	for _, k := range []int{42, 63, 64, 65, 66, 127, 128, 129, 1000, 1<<16 + 1, 1 << 31, 1<<31 + 1, 1 << 32, 1<<32 + 1, 1<<32 + 2, 1 << 40, 1 << 62, 1<<62 + 1, math.MaxInt - 1, math.MaxInt} {
		for _, most := range delays() {
			wantsDelay(t, "P9.2", 0, most, k, 0, api.OK)
			for _, base := range []int{1, 2, 3, 1 << 20, 999983, greatest - 1, greatest} {
				wantsDelay(t, "P9.2", base, most, k, most, api.OK)
			}
		}
	}
}

// P9.2: beside the chapter's words with numbers of any length.
func TestDelay(t *testing.T) {
	t.Parallel()
	all := delays()
	for _, base := range all {
		for _, most := range all {
			for k := range 45 {
				sameDelay(t, base, most, k)
			}
		}
	}
	r := chance(2)
	for range 100000 {
		sameDelay(t, anyDelay(r), anyDelay(r), r.Intn(1<<r.Intn(11)+1))
	}
}

// P9.3: each number that may not be, alone and with others.
func TestJitterRefused(t *testing.T) {
	for _, luck := range []uint64{0, 7, math.MaxUint64} {
		for _, bad := range noDelays() {
			wantsJitter(t, "P9.3", luck, 1, 0, 1, bad, 0, api.ErrPaceArg)
			wantsJitter(t, "P9.3", luck, 0, 0, 0, bad, 0, api.ErrPaceArg)
			wantsJitter(t, "P9.3", luck, -1, -1, -1, bad, 0, api.ErrPaceArg)
		}
		for _, bad := range negatives() {
			for _, most := range []int{0, 9, greatest} {
				wantsJitter(t, "P9.3", luck, bad, 0, 1, most, 0, api.ErrPaceArg)
				wantsJitter(t, "P9.3", luck, 1, bad, 1, most, 0, api.ErrPaceArg)
				wantsJitter(t, "P9.3", luck, 1, 0, bad, most, 0, api.ErrPaceArg)
				wantsJitter(t, "P9.3", luck, bad, bad, bad, most, 0, api.ErrPaceArg)
			}
		}
	}
}

// P9.3: noughts and the greatest numbers may be; what is drawn out of them hangs on each and on their order.
func TestJitterEdges(t *testing.T) {
	wantsJitter(t, "P9.3", 0, 0, 0, 0, 3, 1, api.OK)
	wantsJitter(t, "P9.3", 0, 1, 0, 1, greatest, 262874706499, api.OK)
	ends := []int{0, 1, 2, 100, 1 << 31, 1 << 32, 1<<32 + 1, 1 << 40, 1 << 62, math.MaxInt}
	for _, luck := range []uint64{0, 1, 7, 1 << 63, math.MaxUint64} {
		for _, run := range ends {
			for _, node := range ends {
				for _, attempt := range ends {
					sameJitter(t, luck, run, node, attempt, greatest)
					sameJitter(t, luck, run, node, attempt, 9)
				}
			}
		}
	}
}

// P9.3: beside the chapter's words with numbers of any length.
func TestJitter(t *testing.T) {
	t.Parallel()
	for _, most := range delays() {
		for n := range 1000 {
			sameJitter(t, uint64(n*n), n%10, n/10%10, n/100, most)
		}
	}
	r := chance(3)
	for range 50000 {
		sameJitter(t, r.Uint64(), r.Int()>>r.Intn(63), r.Intn(64), r.Intn(100), anyDelay(r))
	}
}

// P9.4: refused by Delay's part, by Jitter's part, by both; the answer is 0 then, whatever the other part says.
func TestWaitRefused(t *testing.T) {
	good := api.Node{Base: 4, Cap: 8, Jitter: 9}
	for _, bad := range noDelays() {
		for part, n := range []api.Node{
			{Base: bad, Cap: 8, Jitter: 9}, {Base: 4, Cap: bad, Jitter: 9}, {Base: 4, Cap: 8, Jitter: bad},
			{Base: bad, Cap: bad, Jitter: bad}, {Base: bad, Cap: 8, Jitter: bad}, {Base: 0, Cap: 0, Jitter: bad},
		} {
			wantsWait(t, "P9.4", n, 0, 1, 0, 1, 0, api.ErrPaceArg)
			wantsWait(t, "P9.4", n, uint64(part), part, 1, 100, 0, api.ErrPaceArg)
		}
	}
	for _, bad := range negatives() {
		wantsWait(t, "P9.4", good, 0, bad, 0, 1, 0, api.ErrPaceArg)
		wantsWait(t, "P9.4", good, 0, 1, bad, 1, 0, api.ErrPaceArg)
		wantsWait(t, "P9.4", good, 0, 1, 0, bad, 0, api.ErrPaceArg)
		wantsWait(t, "P9.4", good, 0, bad, bad, bad, 0, api.ErrPaceArg)
	}
	// Jitter takes attempt 0, Delay does not.
	wantsJitter(t, "P9.4", 0, 1, 0, 0, 9, func() int { n, _ := modelJitter(0, 1, 0, 0, 9); return n }(), api.OK)
	wantsWait(t, "P9.4", good, 0, 1, 0, 0, 0, api.ErrPaceArg)
	wantsWait(t, "P9.4", api.Node{}, 0, 0, 0, 0, 0, api.ErrPaceArg)
}

// P9.4: noughts, the greatest numbers, and each part alone.
func TestWaitEdges(t *testing.T) {
	wantsWait(t, "P9.4", api.Node{}, 0, 0, 0, 1, 0, api.OK)
	wantsWait(t, "P9.4", api.Node{Base: 4, Cap: 8}, 0, 1, 0, 1, 4, api.OK)
	wantsWait(t, "P9.4", api.Node{Base: 4, Cap: 8}, 0, 1, 0, 2, 8, api.OK)
	wantsWait(t, "P9.4", api.Node{Base: 4, Cap: 8}, 0, 1, 0, math.MaxInt, 8, api.OK)
	wantsWait(t, "P9.4", api.Node{Cap: 8, Jitter: 9}, 0, 1, 0, 2, 8, api.OK)
	wantsWait(t, "P9.4", api.Node{Base: 4, Jitter: 9}, 0, 1, 0, 2, 8, api.OK)
	wantsWait(t, "P9.4", api.Node{Base: 4, Cap: 3, Jitter: 9}, 7, 1, 0, 1, 3+5, api.OK)
	wantsWait(t, "P9.4", api.Node{Base: greatest, Cap: greatest, Jitter: greatest}, 0, 1, 0, 1, greatest+262874706499, api.OK)
}

// P9.4: what else a node has is not looked at, and not changed.
func TestWaitElse(t *testing.T) {
	list := []int{3, -1, 5}
	for _, n := range []api.Node{
		{Name: "a", Lane: 3, Budget: 2, Close: 10, Beat: 5, Needs: []int{0}, After: []int{1}},
		{Name: "no name\x00\xff", Lane: -7, Budget: -1, Close: -1, Beat: -1, Needs: []int{-1, -1}, After: []int{1 << 60}},
		{Lane: math.MaxInt, Budget: math.MinInt, Close: math.MaxInt, Beat: math.MaxInt, Needs: list[:1], After: list[1:2]},
	} {
		n.Base, n.Cap, n.Jitter = 4, 8, 9
		wantsWait(t, "P9.4", n, 0, 1, 0, 1, 13, api.OK)
		wantsWait(t, "P9.4", n, 0, 1, 0, 2, 16, api.OK)
		n.Jitter = -1
		wantsWait(t, "P9.4", n, 0, 1, 0, 1, 0, api.ErrPaceArg)
	}
	if !slices.Equal(list, []int{3, -1, 5}) {
		t.Errorf("R4: Wait has changed a node's lists: %v", list)
	}
}

// P9.4: beside the chapter's words, and beside both parts as the package tells them.
func TestWait(t *testing.T) {
	t.Parallel()
	r := chance(4)
	for range 50000 {
		n := anyNode(r)
		luck, run, node, attempt := r.Uint64(), r.Intn(1<<r.Intn(41)+1), r.Intn(64), r.Intn(101)
		sameWait(t, n, luck, run, node, attempt)
		delay, refused := Delay(n.Base, n.Cap, attempt)
		jitter, _ := Jitter(luck, run, node, attempt, n.Jitter)
		if refused == api.OK {
			wantsWait(t, "P9.4", n, luck, run, node, attempt, delay+jitter, api.OK)
		}
	}
}

// plain is a plan of nodes that may be, none like another.
func plain(nodes int) api.Plan {
	p := api.Plan{Deadline: greatest}
	for i := range nodes {
		p.Nodes = append(p.Nodes, api.Node{Budget: i%100 + 1, Close: 10 + i, Cap: 8 + 3*i, Jitter: i % 5})
	}
	return p
}

// P9.5: gap, ahead and the Deadline, each at its ends and beyond; with nodes and without.
func TestBoundNumbers(t *testing.T) {
	for _, nodes := range []int{0, 1, 2, 64} {
		p := plain(nodes)
		for _, bad := range append(noDelays(), 0) {
			wantsBound(t, "P9.5", p, bad, 1, 0, api.ErrPaceArg)
			late := p
			late.Deadline = bad
			wantsBound(t, "P9.5", late, 5, 1, 0, api.ErrPaceArg)
			wantsBound(t, "P9.5", late, bad, -1, 0, api.ErrPaceArg)
		}
		for _, bad := range append(negatives(), 1025, 1026, 2048, 1<<32, 1<<32+1, 1<<40, math.MaxInt) {
			wantsBound(t, "P9.5", p, 5, bad, 0, api.ErrPaceArg)
		}
		for _, gap := range []int{1, 2, 5, greatest - 1, greatest} {
			for _, ahead := range []int{0, 1, 2, 1023, 1024} {
				for _, deadline := range []int{1, 2, 100, 1000, greatest - 1, greatest} {
					p.Deadline = deadline
					sameBound(t, p, gap, ahead)
				}
			}
		}
	}
}

// P9.5: each number of a node at its ends and beyond, in the first, a middle, the last node, alone and in all.
func TestBoundNodes(t *testing.T) {
	type field struct {
		name      string
		of        func(n *api.Node) *int
		good, bad []int
	}
	fields := []field{
		{"Budget", func(n *api.Node) *int { return &n.Budget }, []int{1, 2, 99, 100}, append(negatives(), 0, 101, 102, 200, 1<<32+1, math.MaxInt)},
		{"Close", func(n *api.Node) *int { return &n.Close }, []int{1, 2, greatest - 1, greatest}, append(noDelays(), 0)},
		{"Cap", func(n *api.Node) *int { return &n.Cap }, []int{1, 2, greatest - 1, greatest}, append(noDelays(), 0)},
		{"Jitter", func(n *api.Node) *int { return &n.Jitter }, []int{0, 1, greatest - 1, greatest}, noDelays()},
	}
	for _, f := range fields {
		for _, nodes := range []int{1, 2, 3, 64} {
			for _, place := range []int{0, nodes / 2, nodes - 1} {
				p := plain(nodes)
				n := f.of(&p.Nodes[place])
				for _, *n = range f.bad {
					wantsBound(t, "P9.5: "+f.name, p, 5, 1, 0, api.ErrPaceArg)
					short := p
					short.Deadline = 1 // already below the sum of the others
					wantsBound(t, "P9.5: "+f.name, short, 5, 1, 0, api.ErrPaceArg)
				}
				for _, *n = range f.good {
					sameBound(t, p, 5, 1)
				}
			}
		}
		all := plain(5)
		for i := range all.Nodes {
			*f.of(&all.Nodes[i]) = f.bad[0]
		}
		wantsBound(t, "P9.5: "+f.name, all, 5, 1, 0, api.ErrPaceArg)
	}
}

// P9.5: how many nodes; what they have does not matter where there are too many.
func TestBoundSizes(t *testing.T) {
	for nodes := range 65 {
		sameBound(t, plain(nodes), 5, 1)
		sameBound(t, plain(nodes), greatest, 1024)
	}
	for _, nodes := range []int{65, 66, 100, 128, 320, 1 << 16} {
		wantsBound(t, "P9.5", plain(nodes), 5, 1, 0, api.ErrPaceArg)
		wantsBound(t, "P9.5", api.Plan{Deadline: 100, Nodes: make([]api.Node, nodes)}, 5, 1, 0, api.ErrPaceArg)
	}
	for _, none := range [][]api.Node{nil, {}, make([]api.Node, 0, 100), plain(9).Nodes[:0]} {
		for _, deadline := range []int{1, 7, greatest} {
			wantsBound(t, "P9.5", api.Plan{Deadline: deadline, Nodes: none}, 1, 0, 0, api.OK)
			wantsBound(t, "P9.5", api.Plan{Deadline: deadline, Nodes: none}, greatest, 1024, 0, api.OK)
		}
	}
}

// P9.5: the Deadline just below, at and just above the sum; each part of the sum alone.
func TestBoundDeadline(t *testing.T) {
	n := api.Node{Budget: 3, Close: 1, Cap: 1}
	sums := []struct{ sum, gap, ahead int }{
		{3 * (1 + 1 + 1), 1, 0}, {3 * (1 + 1 + 2), 1, 1}, {3 * (1 + 1 + 1025), 1, 1024}, {3 * (1 + 1 + 7), 7, 0}, {3 * (1 + 1 + 21), 7, 2},
	}
	for _, c := range sums {
		for _, add := range []api.Node{{}, {Close: 1000}, {Cap: 1000}, {Jitter: 1000}, {Budget: 50}} {
			x := n
			x.Close, x.Cap, x.Jitter, x.Budget = n.Close+add.Close, n.Cap+add.Cap, add.Jitter, n.Budget+add.Budget
			sum := c.sum/3*x.Budget + 3*(add.Close+add.Cap+add.Jitter)
			for _, deadline := range []int{1, sum - 1, sum, sum + 1, 2 * sum, greatest} {
				wantsBound(t, "P9.5", api.Plan{Deadline: deadline, Nodes: []api.Node{x}}, c.gap, c.ahead, min(deadline, sum), api.OK)
				wantsBound(t, "P9.5", api.Plan{Deadline: deadline, Nodes: []api.Node{x, x, x}}, c.gap, c.ahead, min(deadline, 3*sum), api.OK)
			}
		}
	}
}

// P9.5: at the greatest numbers the sum stays exact, so that each Deadline is below it.
func TestBoundGreatest(t *testing.T) {
	great := api.Node{Budget: 100, Close: greatest, Cap: greatest, Jitter: greatest}
	for nodes := 1; nodes <= 64; nodes++ {
		p := api.Plan{Nodes: slices.Repeat([]api.Node{great}, nodes)}
		for _, p.Deadline = range delays()[1:] {
			wantsBound(t, "P9.5", p, greatest, 1024, p.Deadline, api.OK)
			sameBound(t, p, greatest, 0)
			sameBound(t, p, 1, 1024)
		}
	}
}

// P9.5: nothing else of the plan is looked at; a plan that may not be, may be here.
func TestBoundElse(t *testing.T) {
	p := plain(3)
	want := bound(t, p, 5, 1)
	p.Name = "no name\x00\xff of a plan that may be, and longer than one of these may be"
	for i := range p.Nodes {
		n := &p.Nodes[i]
		n.Name, n.Lane, n.Beat, n.Base = "", -7, -1, -1
		n.Needs, n.After = []int{i, -1, 1 << 60}, []int{(i + 1) % 3, (i + 1) % 3}
	}
	wantsBound(t, "P9.5", p, 5, 1, want, api.OK)
	for i := range p.Nodes {
		n := &p.Nodes[i]
		n.Name, n.Lane, n.Beat, n.Base = "a", math.MaxInt, math.MaxInt, math.MaxInt
		n.Needs, n.After = make([]int, 1000), make([]int, 1000)
	}
	wantsBound(t, "P9.5", p, 5, 1, want, api.OK)
}

// P9.5: beside the chapter's words with numbers of any length.
func TestBound(t *testing.T) {
	t.Parallel()
	r := chance(5)
	below := 0
	for range 20000 {
		p := anyPlan(r, r.Intn(65))
		gap, ahead := anySpan(r), r.Intn(1<<r.Intn(11)+1)
		sameBound(t, p, gap, ahead)
		sameBound(t, p, r.Intn(9)+1, r.Intn(9))
		if ticks, _ := Bound(p, r.Intn(9)+1, r.Intn(9)); ticks < p.Deadline {
			below++
		}
	}
	if below < 2000 {
		t.Errorf("P9.5: only %d sums were below their Deadline", below)
	}
}

// R4: a plan is not changed, its spare room neither, whether Bound is refused or not.
func TestBoundLeavesPlan(t *testing.T) {
	for _, bad := range []int{0, 1} {
		whole := plain(10)
		for i := range whole.Nodes {
			whole.Nodes[i].Needs = append(make([]int, 0, 4), i, i+1)
		}
		whole.Nodes[3].Budget = bad
		want := plain(10)
		for i := range want.Nodes {
			want.Nodes[i].Needs = append(make([]int, 0, 4), i, i+1)
		}
		want.Nodes[3].Budget = bad
		p := whole
		p.Nodes = whole.Nodes[:7]
		Bound(p, 5, 1)
		if !reflect.DeepEqual(whole, want) {
			t.Errorf("R4: Bound has changed the plan: %+v", whole)
		}
	}
}

// R5: what was asked before does not show: the same call answers the same, whatever lies between.
func TestNothingKept(t *testing.T) {
	p := plain(5)
	for range 3 {
		wantsDelay(t, "R5", 3, 100, 4, 24, api.OK)
		wantsDelay(t, "R5", 3, 100, 0, 0, api.ErrPaceArg)
		wantsJitter(t, "R5", 0, 1, 0, 1, 9, 9, api.OK)
		wantsJitter(t, "R5", 0, -1, 0, 1, 9, 0, api.ErrPaceArg)
		wantsWait(t, "R5", api.Node{Base: 4, Cap: 8, Jitter: 9}, 0, 1, 0, 1, 13, api.OK)
		sameBound(t, p, 5, 1)
		sameBound(t, p, 0, 1)
		if got := Mix(0, 1); got != 16490336266968443936 {
			t.Errorf("R5: Mix(0, 1): %d", got)
		}
	}
}
