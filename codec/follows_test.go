package codec

import (
	"bytes"
	"math/rand"
	"slices"
	"strings"
	"sync"
	"testing"
	"unsafe"

	"escapement/api"
	"escapement/pack"
	"escapement/plan"
)

// What follows, P12.5 to P12.8; whose the memory is; chance.

// bothWays asks a plan and an operation for their bytes, and these for what they were.
func bothWays(t *testing.T, o api.Op) {
	t.Helper()
	asModel(t, o)
	b, code := OpBytes(o)
	if code != 0 || len(b) > 8192 {
		t.Fatalf("P12.5: OpBytes(%s): %d bytes, %d", told(o), len(b), code)
	}
	if x, code := ReadOp(b); !sameOp(x, o) || code != 0 {
		t.Fatalf("P12.5: %s comes back as %s, %d", told(o), told(x), code)
	}
	if o.Kind != api.OpSubmit {
		return
	}
	b, code = PlanBytes(o.Plan)
	if code != 0 || len(b) > 8192 {
		t.Fatalf("P12.5: PlanBytes(%s): %d bytes, %d", told(o.Plan), len(b), code)
	}
	if x, code := ReadPlan(b); !plan.Same(x, o.Plan) || !samePlan(x, o.Plan) || code != 0 {
		t.Fatalf("P12.5: %s comes back as %s, %d", told(o.Plan), told(x), code)
	}
}

// P12.5: of all that may be; the greatest too.
func TestBack(t *testing.T) {
	t.Parallel()
	for _, o := range someOps(11, 400) {
		bothWays(t, o)
	}
	great := greatest()
	bothWays(t, submit(great, strings.Repeat("\xff", 40)))
	if b, _ := PlanBytes(great); len(b) != 5104 {
		t.Errorf("P12.5: the greatest plan has %d bytes", len(b))
	}
	if b, _ := OpBytes(submit(great, strings.Repeat("k", 40))); len(b) != 5146 {
		t.Errorf("P12.5: the greatest operation has %d bytes", len(b))
	}
	for _, o := range []api.Op{{Kind: 2, Lane: 15, Worker: delay}, {Kind: 3, Token: delay}, {Kind: 4, Token: delay, Result: bytes.Repeat([]byte{255}, 64)}, {Kind: 5, Token: delay}, {Kind: 6, Run: delay}, {Kind: 7, Run: delay}, {Kind: 8, Luck: 1<<64 - 1}, {Kind: 9, Ticks: late}} {
		bothWays(t, o)
	}
}

// P12.5: nil and empty lists are one.
func TestNilAndEmpty(t *testing.T) {
	empty := full(submit(one(), ""))
	for _, o := range []api.Op{submit(one(), ""), empty} {
		wantsOp(t, o, slices.Concat([]byte{1}, bytesOne, []byte{0}), 0)
		wantsPlan(t, o.Plan, bytesOne, 0)
	}
	for _, result := range [][]byte{nil, {}} {
		wantsOp(t, api.Op{Kind: 4, Token: 5, Result: result}, []byte{4, 5, 0}, 0)
	}
}

// oneForm asks whatever can be read for its bytes.
func oneForm(t *testing.T, b []byte) (plans, ops int) {
	t.Helper()
	if p, code := ReadPlan(b); code == 0 {
		plans++
		if back, code := PlanBytes(p); string(back) != string(b) || code != 0 {
			t.Fatalf("P12.6: %v is read as %s, which is %v, %d", b, told(p), back, code)
		}
	}
	if o, code := ReadOp(b); code == 0 {
		ops++
		if back, code := OpBytes(o); string(back) != string(b) || code != 0 {
			t.Fatalf("P12.6: %v is read as %s, which is %v, %d", b, told(o), back, code)
		}
	}
	return plans, ops
}

// P12.6, P12.3: all rows of up to four bytes out of some that matter, and of five of the kind that has a row of bytes.
func TestOneForm(t *testing.T) {
	t.Parallel()
	some := []byte{0, 1, 2, 4, 8, 9, 10, 16, 127, 128, 129, 255}
	rows, ops := [][]byte{nil}, 0
	for from := 0; from < len(rows); from++ {
		row := rows[from]
		readsOp(t, row)
		_, more := oneForm(t, row)
		ops += more
		if len(row) < 4 || len(row) == 4 && row[0] == 4 {
			for _, b := range some {
				rows = append(rows, append(slices.Clone(row), b))
			}
		}
	}
	if ops < 500 {
		t.Fatalf("only %d rows are operations", ops)
	}
}

// P12.6: bytes about those of plans, as many of which may be as can.
func TestOneFormOfPlans(t *testing.T) {
	t.Parallel()
	r, plans := chance(12), 0
	for range 3000 {
		b := layPlan(nil, anyPlan(r, 1+r.Intn(3), r.Intn(4)))
		for range 1 + r.Intn(2) {
			b[r.Intn(len(b))] += byte(1 + r.Intn(3))
		}
		readsPlan(t, b)
		more, _ := oneForm(t, b)
		plans += more
	}
	if plans < 300 {
		t.Fatalf("only %d of the turned bytes are plans", plans)
	}
}

// P12.7: by their bytes in order: what begins another one stands right ahead of one that it begins.
func TestAlone(t *testing.T) {
	t.Parallel()
	r := chance(13)
	plans, ops := map[string]api.Plan{}, map[string]api.Op{}
	for range 1500 {
		p := of()
		for i := range 1 + r.Intn(3) {
			n := node(string(letters[r.Intn(4)])+strings.Repeat("z", i), nil, nil)
			n.Lane, n.Beat, n.Jitter = r.Intn(2), r.Intn(2), r.Intn(2)
			p.Nodes = append(p.Nodes, n)
		}
		lay(p, len(p.Nodes)-1, 0, r.Intn(2) == 0)
		if _, code := plan.Check(p); code != 0 {
			continue
		}
		b, _ := PlanBytes(p)
		if was, there := plans[string(b)]; there && !samePlan(was, p) {
			t.Fatalf("P12.7: %s and %s have the same bytes", told(was), told(p))
		}
		plans[string(b)] = p
	}
	small := someOps(14, 100)
	for kind := 1; kind <= 9; kind++ {
		for n := range 300 {
			o := api.Op{Kind: kind, Lane: n % 16, Worker: n, Token: 1 + n, Result: make([]byte, n%65), Run: 1 + n, Luck: uint64(n), Ticks: n, Plan: one(), Key: strings.Repeat("\x00", n%41)}
			small = append(small, keep(o))
		}
	}
	for _, o := range small {
		b, code := OpBytes(o)
		if was, there := ops[string(b)]; code != 0 || there && !sameOp(was, o) {
			t.Fatalf("P12.7: %s and %s have the same bytes, %d", told(was), told(o), code)
		}
		ops[string(b)] = o
	}
	if len(plans) < 100 || len(ops) < 2000 {
		t.Fatalf("only %d plans, %d operations", len(plans), len(ops))
	}
	noneBegins(t, plans)
	noneBegins(t, ops)
}

func noneBegins[T any](t *testing.T, all map[string]T) {
	t.Helper()
	list := make([]string, 0, len(all))
	for b := range all {
		list = append(list, b)
	}
	slices.Sort(list)
	for i := 1; i < len(list); i++ {
		if strings.HasPrefix(list[i], list[i-1]) {
			t.Fatalf("P12.7: the bytes of %s begin those of %s", told(all[list[i-1]]), told(all[list[i]]))
		}
	}
}

// keep makes all fields zero that the kind does not use.
func keep(o api.Op) api.Op {
	k := api.Op{Kind: o.Kind}
	for _, i := range used[o.Kind] {
		switch i {
		case 0:
			k.Plan = o.Plan
		case 1:
			k.Key = o.Key
		case 2:
			k.Lane = o.Lane
		case 3:
			k.Worker = o.Worker
		case 4:
			k.Token = o.Token
		case 5:
			k.Result = o.Result
		case 6:
			k.Run = o.Run
		case 7:
			k.Luck = o.Luck
		case 8:
			k.Ticks = o.Ticks
		}
	}
	return k
}

// P12.8: rows of plans, operations and other values, and lists of them.
func TestInARow(t *testing.T) {
	t.Parallel()
	r := chance(15)
	manyPlans, manyOps := pack.Lists(Plans(), 5), pack.Lists(Ops(), 5)
	for range 300 {
		w := pack.NewWriter(api.MaxLen)
		var takes []func(r *pack.Reader) bool
		var want []byte
		for range 1 + r.Intn(9) {
			switch p, o := anyPlan(r, 1+r.Intn(4), r.Intn(5)), anyOp(r, 1+r.Intn(9)); r.Intn(6) {
			case 0:
				Plans().Put(w, p)
				want = layPlan(want, p)
				takes = append(takes, func(r *pack.Reader) bool { return samePlan(Plans().Take(r), p) })
			case 1:
				Ops().Put(w, o)
				want = layOp(want, o)
				takes = append(takes, func(r *pack.Reader) bool { return sameOp(Ops().Take(r), o) })
			case 2:
				n := r.Intn(1000)
				pack.Numbers(0, 1000).Put(w, n)
				want = number(want, n)
				takes = append(takes, func(r *pack.Reader) bool { return pack.Numbers(0, 1000).Take(r) == n })
			case 3:
				pack.Texts(50).Put(w, p.Name)
				want = text(want, p.Name)
				takes = append(takes, func(r *pack.Reader) bool { return pack.Texts(50).Take(r) == p.Name })
			case 4:
				list := []api.Plan{p, one(), p}[:r.Intn(4)]
				manyPlans.Put(w, list)
				want = number(want, len(list))
				for _, p := range list {
					want = layPlan(want, p)
				}
				takes = append(takes, func(r *pack.Reader) bool { return slices.EqualFunc(manyPlans.Take(r), list, samePlan) })
			case 5:
				list := []api.Op{o, {Kind: 9}, o}[:r.Intn(4)]
				manyOps.Put(w, list)
				want = number(want, len(list))
				for _, o := range list {
					want = layOp(want, o)
				}
				takes = append(takes, func(r *pack.Reader) bool { return slices.EqualFunc(manyOps.Take(r), list, sameOp) })
			}
		}
		b, code := w.Done()
		if string(b) != string(want) || code != 0 {
			t.Fatalf("P12.8: %v, %d; want %v", b, code, want)
		}
		back := pack.NewReader(b)
		for i, take := range takes {
			if !take(back) {
				t.Fatalf("P12.8: the value %d of %v comes back as another one (at %d, %d)", i, b, back.At(), back.Err())
			}
		}
		if back.End() != 0 {
			t.Fatalf("P12.8: behind all of %v: %d", b, back.End())
		}
	}
}

// roomy is an operation whose lists have spare room that something stands in.
func roomy(o api.Op) api.Op {
	o.Result = append(slices.Clone(o.Result), 201, 202)[:len(o.Result)]
	nodes := slices.Clone(o.Plan.Nodes)
	for i, n := range nodes {
		nodes[i].Needs = append(slices.Clone(n.Needs), 201, 202)[:len(n.Needs)]
		nodes[i].After = append(slices.Clone(n.After), 203, 204)[:len(n.After)]
	}
	o.Plan.Nodes = append(nodes, node("spare", []int{205}, nil), node("room", nil, nil))[:len(nodes)]
	return o
}

// wholeOf is all that an operation's lists hold, their spare room too.
func wholeOf(o api.Op) api.Op {
	o.Result = slices.Clone(o.Result[:cap(o.Result)])
	o.Plan.Nodes = slices.Clone(o.Plan.Nodes[:cap(o.Plan.Nodes)])
	for i, n := range o.Plan.Nodes {
		o.Plan.Nodes[i].Needs, o.Plan.Nodes[i].After = slices.Clone(n.Needs[:cap(n.Needs)]), slices.Clone(n.After[:cap(n.After)])
	}
	return o
}

// What is handed in is not changed, its spare room neither; nothing hangs on it.
func TestNothingIsChanged(t *testing.T) {
	for _, o := range someOps(16, 20) {
		in := roomy(o)
		was := wholeOf(in)
		asModel(t, in)
		w := pack.NewWriter(api.MaxLen)
		Ops().Put(w, in)
		Plans().Put(w, in.Plan)
		if !sameOp(wholeOf(in), was) {
			t.Fatalf("R4: %s was changed: %s", told(was), told(wholeOf(in)))
		}
		b := append(layOp(nil, o), 77, 78, 79)
		kept := slices.Clone(b)
		readsOp(t, b[:len(b)-3])
		readsPlan(t, b[:len(b)-3])
		if string(b) != string(kept) {
			t.Fatalf("R4: the bytes %v were changed: %v", kept, b)
		}
	}
}

// spoil turns all that an operation's lists hold, their spare room too.
func spoil(o api.Op) {
	nodes := o.Plan.Nodes[:cap(o.Plan.Nodes)]
	for i := range nodes {
		for _, list := range [][]int{nodes[i].Needs, nodes[i].After} {
			for j := range list[:cap(list)] {
				list[:cap(list)][j] = 999
			}
		}
		nodes[i] = node("spoilt", nil, nil)
	}
	for i := range o.Result[:cap(o.Result)] {
		o.Result[:cap(o.Result)][i] = 99
	}
}

// What is handed in is not kept: a writer, and what was read, stay as they are when it is turned.
func TestNothingIsKept(t *testing.T) {
	for _, o := range someOps(17, 20) {
		in := roomy(o)
		w := pack.NewWriter(api.MaxLen)
		Ops().Put(w, in)
		b, code := OpBytes(in)
		spoil(in)
		if laid, _ := w.Done(); string(laid) != string(layOp(nil, o)) || string(b) != string(laid) || code != 0 {
			t.Fatalf("R4: %v, %v; want %v", laid, b, layOp(nil, o))
		}
		row := layOp(nil, o)
		x, _ := ReadOp(row)
		clear(row)
		if !sameOp(x, o) {
			t.Fatalf("R4: what was read has changed with its bytes: %s, want %s", told(x), told(o))
		}
	}
}

// What is answered is new memory, each time, its spare room too; no two lists of it share any.
func TestAnswersAreNew(t *testing.T) {
	for _, o := range someOps(18, 20) {
		row := layOp(nil, o)
		b, _ := OpBytes(o)
		c, _ := OpBytes(o)
		for _, list := range [][]byte{b, c} {
			for i := range list[:cap(list)] {
				list[:cap(list)][i] ^= 255
			}
			if again, _ := OpBytes(o); string(again) != string(row) {
				t.Fatalf("R4: OpBytes has changed: %v, want %v", again, row)
			}
		}
		x, _ := ReadOp(row)
		y, _ := ReadOp(row)
		spoil(x)
		if !sameOp(y, o) {
			t.Fatalf("R4: two answers share memory: %s, want %s", told(y), told(o))
		}
		apart(t, o, y)
	}
}

// apart holds the places of an answer's lists of numbers against each other.
func apart(t *testing.T, o, y api.Op) {
	t.Helper()
	type place struct{ from, to uintptr }
	var places []place
	for _, n := range y.Plan.Nodes {
		for _, list := range [][]int{n.Needs, n.After} {
			if cap(list) > 0 {
				from := uintptr(unsafe.Pointer(unsafe.SliceData(list)))
				places = append(places, place{from, from + 8*uintptr(cap(list))})
			}
		}
	}
	slices.SortFunc(places, func(a, b place) int { return int(a.from) - int(b.from) })
	for i := 1; i < len(places); i++ {
		if places[i].from < places[i-1].to {
			t.Fatalf("R4: two lists of what %s is read as share memory", told(o))
		}
	}
}

// Forms are values that nothing changes: the same ones, used again and again, also behind faults.
func TestFormsAgain(t *testing.T) {
	plans, ops := Plans(), Ops()
	for i, o := range someOps(19, 30) {
		w := pack.NewWriter(i % 9)
		ops.Put(w, submit(of(), "k"))
		plans.Put(w, of())
		ops.Take(pack.NewReader([]byte{1, 1}))
		plans.Take(pack.NewReader([]byte{1, 112, 100, 1, 1}))
		if b, code := pack.Bytes(ops, o, 8192); string(b) != string(layOp(nil, o)) || code != 0 {
			t.Fatalf("P12.4: %v, %d", b, code)
		}
		if x, code := pack.Read(ops, layOp(nil, o)); !sameOp(x, o) || code != 0 {
			t.Fatalf("P12.4: %s, %d", told(x), code)
		}
		p := someOf(chance(int64(i)))
		if x, code := pack.Read(plans, layPlan(nil, p)); !samePlan(x, p) || code != 0 {
			t.Fatalf("P12.4: %s, %d", told(x), code)
		}
	}
}

// R5: side by side all answer the same.
func TestSideBySide(t *testing.T) {
	list := someOps(20, 10)
	plans, ops := Plans(), Ops()
	var all sync.WaitGroup
	for range 8 {
		all.Go(func() {
			for _, o := range list {
				b, code := OpBytes(o)
				c, _ := pack.Bytes(ops, o, 8192)
				if x, e := ReadOp(b); code != 0 || e != 0 || !sameOp(x, o) || string(c) != string(b) {
					t.Errorf("R5: %s, %d, %d; want %s", told(x), code, e, told(o))
				}
				if o.Kind == 1 {
					b, _ := pack.Bytes(plans, o.Plan, 8192)
					if x, e := pack.Read(plans, b); e != 0 || !samePlan(x, o.Plan) {
						t.Errorf("R5: %s, %d; want %s", told(x), e, told(o.Plan))
					}
				}
			}
		})
	}
	all.Wait()
}

// wildOp has fields by chance, of which most kinds use only some.
func wildOp(r *rand.Rand) api.Op {
	o := anyOp(r, 1+r.Intn(9))
	for range r.Intn(3) {
		n := numbers()[r.Intn(len(numbers()))]
		switch r.Intn(10) {
		case 0:
			o.Kind = n
		case 1:
			o.Lane = n
		case 2:
			o.Worker = n
		case 3:
			o.Token = n
		case 4:
			o.Run = n
		case 5:
			o.Ticks = n
		case 6:
			o.Luck = uint64(n)
		case 7:
			o.Key = strings.Repeat("k", r.Intn(60))
		case 8:
			o.Result = anyBytes(r, 90)
		case 9:
			o.Plan = someOf(r)
			x := &o.Plan.Nodes[r.Intn(len(o.Plan.Nodes))]
			*[]*int{&x.Lane, &x.Budget, &x.Close, &x.Beat, &x.Base, &x.Cap, &x.Jitter, &o.Plan.Deadline}[r.Intn(8)] = n
		}
	}
	return o
}

// P12.1, P12.2: operations by chance, against the model.
func TestChance(t *testing.T) {
	t.Parallel()
	r := chance(21)
	for range 20000 {
		asModel(t, wildOp(r))
	}
}

// P12.3, P12.4: bytes by chance, against the model.
func TestChanceOfBytes(t *testing.T) {
	t.Parallel()
	r := chance(22)
	for range 20000 {
		b := anyBytes(r, 30)
		if len(b) > 0 && r.Intn(2) == 0 {
			b[0] = byte(r.Intn(12))
		}
		if r.Intn(3) == 0 {
			b = slices.Concat(bytesTwo[:r.Intn(len(bytesTwo))], b)
		}
		readsOp(t, b)
		readsPlan(t, b)
		oneForm(t, b)
	}
}

// FuzzBytes holds whatever bytes against the model.
func FuzzBytes(f *testing.F) {
	f.Add(bytesOne)
	f.Add(bytesTwo)
	for _, o := range someOps(23, 2) {
		f.Add(layOp(nil, o))
	}
	f.Fuzz(func(t *testing.T, b []byte) {
		readsOp(t, b)
		readsPlan(t, b)
		oneForm(t, b)
	})
}
