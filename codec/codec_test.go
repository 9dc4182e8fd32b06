package codec

import (
	"bytes"
	"slices"
	"strings"
	"testing"

	"escapement/api"
	"escapement/pack"
	"escapement/plan"
)

// The bytes of the examples, as they stand there.
var (
	bytesA   = []byte{1, 97, 0, 2, 10, 0, 4, 8, 0, 0, 0}
	bytesOne = slices.Concat([]byte{1, 112, 100, 1}, bytesA)
	bytesTwo = slices.Concat([]byte{1, 112, 172, 2, 2}, bytesA, []byte{1, 98, 0, 2, 10, 0, 4, 8, 0, 1, 0, 0})
)

func two() api.Plan {
	p := of(node("a", nil, nil), node("b", []int{0}, nil))
	p.Deadline = 300
	return p
}

func TestExamplesOfPlans(t *testing.T) {
	if len(bytesOne) != 15 || len(bytesTwo) != 28 {
		t.Fatalf("%d, %d bytes", len(bytesOne), len(bytesTwo))
	}
	wantsPlan(t, one(), bytesOne, 0)
	wantsPlan(t, two(), bytesTwo, 0)
	for want, b := range map[string][]byte{"one": bytesOne, "two": bytesTwo} {
		p, code := ReadPlan(b)
		if right := map[string]api.Plan{"one": one(), "two": two()}[want]; !samePlan(p, right) || code != 0 {
			t.Errorf("P12.3: ReadPlan of %s: %s, %d", want, told(p), code)
		}
	}
	for _, c := range []struct {
		place     int
		b         byte
		at, fault int
	}{{11, 3, 15, 22}, {7, 101, 7, 22}} {
		b := slices.Clone(bytesOne)
		b[c.place] = c.b
		if p, code := ReadPlan(b); !samePlan(p, api.Plan{}) || code != 120 {
			t.Errorf("P12.3: ReadPlan of %v: %s, %d", b, told(p), code)
		}
		r := pack.NewReader(b)
		if p := Plans().Take(r); !samePlan(p, api.Plan{}) || r.At() != c.at || int(r.Err()) != c.fault {
			t.Errorf("P12.4: Take off %v: %s, at %d, %d", b, told(p), r.At(), r.Err())
		}
	}
	if p, code := ReadPlan(bytesOne[:14]); !samePlan(p, api.Plan{}) || code != 120 {
		t.Errorf("P12.3: ReadPlan without the last byte: %s, %d", told(p), code)
	}
}

func TestExamplesOfOps(t *testing.T) {
	wantsOp(t, submit(one(), "k"), slices.Concat([]byte{1}, bytesOne, []byte{1, 107}), 0)
	wantsOp(t, api.Op{Kind: 2, Lane: 3, Worker: 200}, []byte{2, 3, 200, 1}, 0)
	wantsOp(t, api.Op{Kind: 3, Token: 1}, []byte{3, 1}, 0)
	wantsOp(t, api.Op{Kind: 9}, []byte{9, 0}, 0)
	wantsOp(t, api.Op{Kind: 4, Token: 5, Result: []byte{7, 7}}, []byte{4, 5, 2, 7, 7}, 0)
	wantsOp(t, api.Op{Kind: 8, Luck: 258}, []byte{8, 2, 1, 0, 0, 0, 0, 0, 0}, 0)
	wantsOp(t, api.Op{Kind: 9, Ticks: late}, []byte{9, 128, 128, 128, 128, 128, 128, 128, 128, 64}, 0)
	wantsOp(t, api.Op{Kind: 8}, []byte{8, 0, 0, 0, 0, 0, 0, 0, 0}, 0)
	for _, o := range []api.Op{{}, {Kind: 10}, {Kind: 2, Run: 1}, {Kind: 3}, {Kind: 9, Ticks: -1}, {Kind: 2, Lane: 16}, {Kind: 4, Token: 1, Result: make([]byte, 65)}} {
		wantsOp(t, o, nil, 121)
	}
	wantsOp(t, submit(of(), ""), nil, 102)
	with := submit(one(), "")
	with.Token = 1
	wantsOp(t, with, nil, 121)
	with.Plan = of()
	wantsOp(t, with, nil, 121)
	if o, code := ReadOp([]byte{9, 0}); !sameOp(o, api.Op{Kind: 9}) || code != 0 {
		t.Errorf("P12.3: ReadOp(9 0): %s, %d", told(o), code)
	}
	for _, b := range [][]byte{{9}, {9, 0, 0}, {10, 0}, nil, {}} {
		if o, code := ReadOp(b); !sameOp(o, api.Op{}) || code != 121 {
			t.Errorf("P12.3: ReadOp(%v): %s, %d", b, told(o), code)
		}
	}
}

// setters set each of the nine fields to something that is not zero.
var setters = map[string]func(o *api.Op){
	"0 name":     func(o *api.Op) { o.Plan.Name = "p" },
	"0 deadline": func(o *api.Op) { o.Plan.Deadline = 1 },
	"0 before":   func(o *api.Op) { o.Plan.Deadline = -1 },
	"0 nodes":    func(o *api.Op) { o.Plan.Nodes = make([]api.Node, 1) },
	"0 plan":     func(o *api.Op) { o.Plan = one() },
	"1":          func(o *api.Op) { o.Key = "k" },
	"1 zero":     func(o *api.Op) { o.Key = "\x00" },
	"2":          func(o *api.Op) { o.Lane = 1 },
	"2 below":    func(o *api.Op) { o.Lane = -1 },
	"3":          func(o *api.Op) { o.Worker = 1 },
	"3 great":    func(o *api.Op) { o.Worker = 1 << 32 },
	"4":          func(o *api.Op) { o.Token = 1 },
	"4 great":    func(o *api.Op) { o.Token = 1 << 32 },
	"5":          func(o *api.Op) { o.Result = []byte{0} },
	"6":          func(o *api.Op) { o.Run = 1 },
	"6 below":    func(o *api.Op) { o.Run = -1 << 63 },
	"7":          func(o *api.Op) { o.Luck = 1 },
	"7 great":    func(o *api.Op) { o.Luck = 1 << 63 },
	"8":          func(o *api.Op) { o.Ticks = 1 },
	"8 great":    func(o *api.Op) { o.Ticks = late },
}

// P12.1: each field that a kind does not use, set alone, on an operation that may be else.
func TestUnusedFields(t *testing.T) {
	for _, o := range someOps(1, 3) {
		wantsOp(t, o, layOp(nil, o), 0)
		for name, set := range setters {
			if slices.Contains(used[o.Kind], int(name[0]-'0')) {
				continue
			}
			with := copyOf(o)
			set(&with)
			wantsOp(t, with, nil, 121)
		}
		// Lists that are there, but empty, are zero.
		with := copyOf(o)
		if with.Kind != 1 {
			with.Plan.Nodes = make([]api.Node, 0, 3)
		}
		if with.Kind != 4 {
			with.Result = make([]byte, 0, 3)
		}
		wantsOp(t, with, layOp(nil, o), 0)
	}
}

// P12.1: two fields set at once, of every kind and of no kind.
func TestPairsOfFields(t *testing.T) {
	for kind := range 11 {
		for _, one := range setters {
			for _, other := range setters {
				o := api.Op{Kind: kind}
				one(&o)
				other(&o)
				asModel(t, o)
			}
		}
	}
}

// P12.1: numbers that are no kind, with nothing set, and with what a kind of the same low bits would use.
func TestKinds(t *testing.T) {
	for _, kind := range numbers() {
		for _, low := range someOps(2, 1) {
			o := low
			o.Kind = kind
			asModel(t, o)
			o.Kind = kind&^15 | low.Kind
			asModel(t, o)
		}
		asModel(t, api.Op{Kind: kind})
	}
}

// P12.1: each field that a kind uses, at its bounds and beyond them.
func TestBounds(t *testing.T) {
	for _, n := range numbers() {
		for _, o := range []api.Op{
			{Kind: 2, Lane: n}, {Kind: 2, Worker: n}, {Kind: 2, Lane: n, Worker: n}, {Kind: 3, Token: n}, {Kind: 4, Token: n}, {Kind: 5, Token: n}, {Kind: 6, Run: n}, {Kind: 7, Run: n}, {Kind: 8, Luck: uint64(n)}, {Kind: 9, Ticks: n},
		} {
			asModel(t, o)
		}
		p := one()
		p.Deadline = n
		asModel(t, submit(p, "k"))
		for _, set := range []func(x *api.Node){
			func(x *api.Node) { x.Lane = n }, func(x *api.Node) { x.Budget = n }, func(x *api.Node) { x.Close = n }, func(x *api.Node) { x.Beat = n }, func(x *api.Node) { x.Base = n },
			func(x *api.Node) { x.Cap = n }, func(x *api.Node) { x.Base, x.Cap = n, n }, func(x *api.Node) { x.Jitter = n }, func(x *api.Node) { x.Needs = []int{n} }, func(x *api.Node) { x.After = []int{n} },
		} {
			p := plain(4)
			set(&p.Nodes[1])
			asModel(t, submit(p, "k"))
		}
	}
	for n := range 300 {
		asModel(t, submit(one(), strings.Repeat("k", n)))
		asModel(t, api.Op{Kind: 4, Token: 1, Result: make([]byte, n)})
		p := one()
		p.Name = strings.Repeat("p", n)
		asModel(t, submit(p, ""))
		p = one()
		p.Nodes[0].Name = strings.Repeat("a", n)
		asModel(t, submit(p, ""))
		asModel(t, submit(plain(n), ""))
	}
	for i := range 256 {
		asModel(t, submit(one(), string([]byte{byte(i)})))
		asModel(t, api.Op{Kind: 4, Token: 1, Result: []byte{byte(i)}})
		asModel(t, api.Op{Kind: 8, Luck: 1 << (i % 64)})
		asModel(t, api.Op{Kind: 9, Ticks: 1 << (i % 63)})
	}
	wantsOp(t, api.Op{Kind: 4, Token: 1, Result: make([]byte, 1<<20)}, nil, 121)
	wantsOp(t, submit(one(), strings.Repeat("k", 1<<20)), nil, 121)
	wantsOp(t, submit(api.Plan{Name: "p", Deadline: 1, Nodes: make([]api.Node, 1<<20)}, ""), nil, 102)
}

// P12.1: whatever the plan is, a fault of the operation comes first; then plan.Check's.
func TestRefusals(t *testing.T) {
	for name, p := range wildPlans() {
		_, code := plan.Check(p)
		if code == 0 {
			t.Fatalf("%s: the plan may be", name)
		}
		wantsPlan(t, p, nil, code)
		wantsOp(t, submit(p, ""), nil, code)
		wantsOp(t, submit(p, strings.Repeat("k", 40)), nil, code)
		wantsOp(t, submit(p, strings.Repeat("k", 41)), nil, 121)
		for name, set := range setters {
			if name[0] > '1' {
				o := submit(p, "k")
				set(&o)
				wantsOp(t, o, nil, 121)
			}
		}
		for kind := 2; kind <= 9; kind++ {
			o := anyOp(chance(int64(kind)), kind)
			o.Plan = p
			wantsOp(t, o, nil, 121)
		}
	}
	for kind := range 11 {
		o := api.Op{Kind: kind, Plan: one(), Key: "k", Lane: 1, Worker: 1, Token: 1, Result: []byte{1}, Run: 1, Luck: 1, Ticks: 1}
		wantsOp(t, o, nil, 121)
	}
}

// turns are bytes that lie about these: each beginning of them, one byte more, one byte less in each place, each byte turned to whatever else.
func turns(b []byte, all bool) [][]byte {
	list := [][]byte{nil, b}
	for i := range b {
		list = append(list, b[:i], slices.Delete(slices.Clone(b), i, i+1))
		for turn := 1; turn < 256; turn++ {
			if all || turn&(turn-1) == 0 || turn == 255 {
				with := slices.Clone(b)
				with[i] ^= byte(turn)
				list = append(list, with)
			}
		}
		list = append(list, slices.Insert(slices.Clone(b), i, 0), slices.Insert(slices.Clone(b), i, 128), slices.Insert(slices.Clone(b), i, b[i]|128))
	}
	for more := range 256 {
		list = append(list, append(slices.Clone(b), byte(more)))
	}
	return append(list, append(slices.Clone(b), b...), append([]byte{0}, b...))
}

// P12.3, P12.4: just the bytes of a plan, and all that lies about them.
func TestTurnedPlans(t *testing.T) {
	t.Parallel()
	r := chance(3)
	for _, b := range turns(bytesTwo, true) {
		readsPlan(t, b)
	}
	for i := range 25 {
		for _, b := range turns(layPlan(nil, anyPlan(r, 1+i%5, i)), false) {
			readsPlan(t, b)
		}
	}
	for i, b := range turns(layPlan(nil, greatest()), false) {
		if i%31 == 0 {
			readsPlan(t, b)
		}
	}
}

// P12.3, P12.4: just the bytes of an operation, and all that lies about them.
func TestTurnedOps(t *testing.T) {
	t.Parallel()
	for _, b := range turns(layOp(nil, submit(two(), "key")), true) {
		readsOp(t, b)
	}
	for _, o := range someOps(4, 20) {
		if o.Kind == 1 {
			o.Plan.Nodes = plain(1 + len(o.Plan.Nodes)%4).Nodes
		}
		for _, b := range turns(layOp(nil, o), o.Kind > 1) {
			readsOp(t, b)
		}
	}
}

// P12.3, P12.4: each number of a plan and an operation about the edges of all that is counted, as bytes.
func TestNumbersInBytes(t *testing.T) {
	for _, n := range numbers() {
		if n < 0 {
			continue
		}
		for kind := range 11 {
			readsOp(t, number([]byte{byte(kind)}, n))
			readsOp(t, append(number([]byte{byte(kind)}, n), 0))
			readsOp(t, number([]byte{byte(kind), 1}, n))
			readsOp(t, append(number([]byte{byte(kind), 1}, n), make([]byte, min(n, 300))...))
		}
		readsOp(t, append(number(nil, n), 1, 1))
		p := two()
		p.Deadline = n
		readsPlan(t, layPlan(nil, p))
		for i := range 7 {
			p := two()
			x := &p.Nodes[1]
			*[]*int{&x.Lane, &x.Budget, &x.Close, &x.Beat, &x.Base, &x.Cap, &x.Jitter}[i] = n
			readsPlan(t, layPlan(nil, p))
			readsOp(t, layOp(nil, submit(p, "k")))
		}
		for _, lists := range [][2][]int{{{n}, nil}, {nil, {n}}, {{0}, {n}}, {{0, n}, nil}} {
			p := plain(64)
			p.Nodes[5].Needs, p.Nodes[5].After = lists[0], lists[1]
			readsPlan(t, layPlan(nil, p))
		}
	}
	for n := range 200 {
		for _, p := range []api.Plan{plain(n), of(node(strings.Repeat("a", n), nil, nil)), {Name: strings.Repeat("p", n), Deadline: 1, Nodes: one().Nodes}, of(node("a", make([]int, n), nil)), of(node("a", nil, make([]int, n)))} {
			readsPlan(t, layPlan(nil, p))
			readsOp(t, layOp(nil, submit(p, "k")))
		}
		readsOp(t, layOp(nil, submit(one(), strings.Repeat("k", n))))
		readsOp(t, layOp(nil, api.Op{Kind: 4, Token: 1, Result: make([]byte, n)}))
	}
}

// P12.3, P12.4: all fields may be, and are taken; the plan may not. Of an operation the key stays where it is then.
func TestWildPlansInBytes(t *testing.T) {
	for name, p := range wildPlans() {
		b := layPlan(nil, p)
		if x, code := ReadPlan(b); !samePlan(x, api.Plan{}) || code != 120 {
			t.Errorf("P12.3: %s: %s, %d", name, told(x), code)
		}
		r := pack.NewReader(append(slices.Clone(b), 1, 107))
		if x := Plans().Take(r); !samePlan(x, api.Plan{}) || r.At() != len(b) || r.Err() != 22 || r.End() != 22 {
			t.Errorf("P12.4: %s: %s, at %d, %d", name, told(x), r.At(), r.Err())
		}
		b = layOp(nil, submit(p, "k"))
		if x, code := ReadOp(b); !sameOp(x, api.Op{}) || code != 121 {
			t.Errorf("P12.3: %s: %s, %d", name, told(x), code)
		}
		r = pack.NewReader(b)
		if x := Ops().Take(r); !sameOp(x, api.Op{}) || r.At() != len(b)-2 || r.Err() != 22 {
			t.Errorf("P12.4: %s: %s, at %d of %d, %d", name, told(x), r.At(), len(b), r.Err())
		}
	}
}

// P12.3: bytes beyond what a reader takes are no plan and no operation.
func TestLongBytes(t *testing.T) {
	b := make([]byte, api.MaxLen+1)
	copy(b, bytesOne)
	if x, code := ReadPlan(b); !samePlan(x, api.Plan{}) || code != 120 {
		t.Errorf("P12.3: ReadPlan of 2^24 + 1 bytes: %s, %d", told(x), code)
	}
	copy(b, []byte{9, 0})
	if x, code := ReadOp(b); !sameOp(x, api.Op{}) || code != 121 {
		t.Errorf("P12.3: ReadOp of 2^24 + 1 bytes: %s, %d", told(x), code)
	}
	r := pack.NewReader(b)
	if x := Ops().Take(r); !sameOp(x, api.Op{}) || r.At() != 0 || r.Err() != 20 {
		t.Errorf("P12.4: Take off 2^24 + 1 bytes: %s, at %d, %d", told(x), r.At(), r.Err())
	}
}

// intoRoom puts a value into writers of each room, empty ones and such as have bytes, and tells what each has then.
func intoRoom[T any](t *testing.T, form pack.Form[T], x T, want []byte) {
	t.Helper()
	for room := -1; room <= len(want)+1; room++ {
		for _, ahead := range []string{"", "ab"} {
			w := pack.NewWriter(room + len(ahead))
			if room >= 0 {
				for _, b := range []byte(ahead) {
					pack.Numbers(0, 127).Put(w, int(b))
				}
			}
			form.Put(w, x)
			b, code := w.Done()
			if room >= len(want) && (string(b) != ahead+string(want) || code != 0) {
				t.Fatalf("P12.4: Put of %s into %d bytes: %v, %d", told(x), room, b, code)
			}
			if room < len(want) && (len(b) != 0 || code != 20) {
				t.Fatalf("P12.4: Put of %s into %d bytes of %d: %v, %d", told(x), room, len(want), b, code)
			}
		}
	}
}

// P12.4: into a writer of any room.
func TestRoom(t *testing.T) {
	r := chance(5)
	for range 20 {
		p := anyPlan(r, 1+r.Intn(4), r.Intn(9))
		intoRoom(t, Plans(), p, layPlan(nil, p))
		intoRoom(t, Ops(), submit(p, "key"), layOp(nil, submit(p, "key")))
	}
	for _, o := range someOps(6, 5) {
		if o.Kind > 1 {
			intoRoom(t, Ops(), o, layOp(nil, o))
		}
	}
}

// P12.4: what may not be lays nothing and fails, whatever the room: it is not the room that is told.
func TestPutRefused(t *testing.T) {
	refused := func(name string, put func(w *pack.Writer)) {
		t.Helper()
		for _, room := range []int{-1, 0, 1, 100, api.MaxLen} {
			w := pack.NewWriter(room)
			put(w)
			if b, code := w.Done(); len(b) != 0 || code != 22 {
				t.Errorf("P12.4: Put of %s into %d bytes: %v, %d", name, room, b, code)
			}
			pack.Flags().Put(w, true)
			Ops().Put(w, api.Op{Kind: 9})
			if b, code := w.Done(); len(b) != 0 || code != 22 {
				t.Errorf("P12.4: behind Put of %s: %v, %d", name, b, code)
			}
		}
	}
	wild := wildPlans()
	wild["zero"], wild["a deadline"], wild["a budget"] = api.Plan{}, one(), one()
	wild["65 nodes"], wild["a long name"] = plain(65), of(node(strings.Repeat("a", 41), nil, nil))
	zero := wild["a deadline"]
	zero.Deadline = 0
	wild["a deadline"] = zero
	wild["a budget"].Nodes[0].Budget = 101
	for name, p := range wild {
		refused(name, func(w *pack.Writer) { Plans().Put(w, p) })
		refused("an operation, "+name, func(w *pack.Writer) { Ops().Put(w, submit(p, "k")) })
	}
	for _, o := range []api.Op{{}, {Kind: 10}, {Kind: -1}, {Kind: 2, Run: 1}, {Kind: 3}, {Kind: 9, Ticks: -1}, {Kind: 2, Lane: 16}, {Kind: 4, Token: 1, Result: make([]byte, 65)}, submit(one(), strings.Repeat("k", 41)), {Kind: 9, Luck: 1}} {
		refused(told(o), func(w *pack.Writer) { Ops().Put(w, o) })
	}
	// In a list, too, it is told so.
	if b, code := pack.Bytes(pack.Lists(Plans(), 9), []api.Plan{one(), of()}, 99); len(b) != 0 || code != 22 {
		t.Errorf("P12.4: a list with no plan in it: %v, %d", b, code)
	}
}

// P12.4: behind a fault nothing is put and nothing is taken, the fault stays; of nil nothing is asked.
func TestBehindFaults(t *testing.T) {
	w := pack.NewWriter(0)
	pack.Flags().Put(w, true)
	Plans().Put(w, of())
	Ops().Put(w, api.Op{})
	if b, code := w.Done(); len(b) != 0 || code != 20 {
		t.Errorf("P12.4: behind a fault of room: %v, %d", b, code)
	}
	r := pack.NewReader(slices.Concat([]byte{2}, bytesOne))
	pack.Flags().Take(r)
	if p, o := Plans().Take(r), Ops().Take(r); !samePlan(p, api.Plan{}) || !sameOp(o, api.Op{}) || r.At() != 0 || r.Err() != 22 {
		t.Errorf("P12.4: behind a fault: %s, %s, at %d, %d", told(p), told(o), r.At(), r.Err())
	}
	r = pack.NewReader(nil)
	if p := Plans().Take(r); !samePlan(p, api.Plan{}) || r.At() != 0 || r.Err() != 21 {
		t.Errorf("P12.4: off no bytes: %s, at %d, %d", told(p), r.At(), r.Err())
	}
	Plans().Put(nil, one())
	Ops().Put(nil, api.Op{Kind: 9})
	if p, o := Plans().Take(nil), Ops().Take(nil); !samePlan(p, api.Plan{}) || !sameOp(o, api.Op{}) {
		t.Errorf("P12.4: off nil: %s, %s", told(p), told(o))
	}
}

// P12.4: a value that stands within others is taken where it stands, and what is behind it is left.
func TestWithinOthers(t *testing.T) {
	for i, o := range someOps(7, 10) {
		b := slices.Concat(bytes.Repeat([]byte{1}, i), layOp(nil, o), []byte{1, 2, 3})
		r := pack.NewReader(b)
		for range i {
			pack.Flags().Take(r)
		}
		if x := Ops().Take(r); !sameOp(x, o) || r.At() != len(b)-3 || r.Err() != 0 || r.End() != 23 {
			t.Fatalf("P12.4: %s, at %d, %d; want %s", told(x), r.At(), r.Err(), told(o))
		}
		if x, code := ReadOp(b[i:]); !sameOp(x, api.Op{}) || code != 121 {
			t.Fatalf("P12.3: with bytes behind it: %s, %d", told(x), code)
		}
	}
}
