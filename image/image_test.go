package image

import (
	"bytes"
	"math"
	"slices"
	"strings"
	"testing"

	"escapement/api"
	"escapement/engine"
	"escapement/pace"
	"escapement/pack"
)

// The calls, P15.1 to P15.4.

// checks asks Check and Bytes.
func checks(t *testing.T, promise string, s api.State, want api.Errno) []byte {
	t.Helper()
	if code := Check(s); code != want {
		t.Fatalf("%s: Check(%s): %d, not %d", promise, told(s), code, want)
	}
	b, code := Bytes(s)
	if code != want || want != api.OK && len(b) != 0 {
		t.Fatalf("%s: Bytes(%s): %v, %d, not %d", promise, told(s), b, code, want)
	}
	return b
}

// reads asks Read and Load, and holds them against a state that is wanted; against nothing beside an error.
func reads(t *testing.T, promise string, b []byte, s api.State, want api.Errno) {
	t.Helper()
	got, code := Read(b)
	if code != want || !sameState(got, s) {
		t.Fatalf("%s: Read(%v): %s, %d;\nwant %s, %d", promise, b, told(got), code, told(s), want)
	}
	e, code := Load(b)
	if code != want || (e != nil) != (want == api.OK) || e != nil && !sameState(e.State(), s) {
		t.Fatalf("%s: Load(%v): %t, %d; want %s, %d", promise, b, e != nil, code, told(s), want)
	}
}

// asMeant reads bytes, whatever they are, as the model does.
func asMeant(t *testing.T, promise string, b []byte) api.Errno {
	t.Helper()
	s, code := meant(b)
	reads(t, promise, b, s, code)
	return code
}

// exampleBytes are the image of the chapter's engine with a run.
func exampleBytes() []byte {
	p := []byte{1, 'p', 100, 1, 1, 'a', 0, 2, 10, 0, 4, 8, 0, 0, 0}
	luck := pace.Mix(0, 0)
	b := []byte{73, 0}
	for i := range 8 {
		b = append(b, byte(luck>>(8*i)))
	}
	return slices.Concat(b, []byte{2, 1, 1, 1, 1, 107}, p, []byte{1, 0, 0, 1, 2, 0, 0, 0, 0, 1, 1, 0, 1, 100, 1, 1, 0})
}

// example is the engine of it.
func example(t *testing.T) *engine.Engine {
	t.Helper()
	e := engine.New()
	p := planOf(100, api.Node{Name: "a", Budget: 2, Close: 10, Base: 4, Cap: 8})
	for _, o := range []api.Op{{Kind: api.OpSubmit, Plan: p, Key: "k"}, {Kind: api.OpDraw}} {
		if a := e.Do(o); a.Code != api.OK {
			t.Fatalf("operation %d: %d", o.Kind, a.Code)
		}
	}
	return e
}

// The chapter's table, row by row.
func TestExamples(t *testing.T) {
	none := []byte{73, 0, 0, 0, 0, 0, 0, 0, 0, 0, 1, 1, 0, 0, 0}
	if b := checks(t, "P15.2", fresh(), api.OK); !bytes.Equal(b, none) {
		t.Errorf("P15.2: a new engine's image is %v", b)
	}
	reads(t, "P15.3", none, fresh(), api.OK)
	for _, b := range [][]byte{none[:14], append(slices.Clone(none), 0), append([]byte{74}, none[1:]...)} {
		reads(t, "P15.3", b, api.State{}, api.ErrImageBytes)
	}
	if b, code := Save(nil); len(b) != 0 || code != api.ErrArg {
		t.Errorf("P15.4: Save(nil): %v, %d", b, code)
	}
	reads(t, "P15.4", nil, api.State{}, api.ErrImageBytes)
	e, want := example(t), exampleBytes()
	if b, code := Save(e); !bytes.Equal(b, want) || code != api.OK {
		t.Errorf("P15.4: %v, %d; want %v", b, code, want)
	}
	s := e.State()
	if b := checks(t, "P15.2", s, api.OK); !bytes.Equal(b, want) {
		t.Errorf("P15.2: %v; want %v", b, want)
	}
	reads(t, "P15.3", want, s, api.OK)
	s.Timers = nil
	checks(t, "P15.2", s, api.ErrEngineState)
	late := slices.Clone(want)
	late[len(late)-4] = 101
	reads(t, "P15.3", late, api.State{}, api.ErrImageBytes)
	l, code := Load(want)
	if code != api.OK || l == nil {
		t.Fatalf("P15.4: %d", code)
	}
	if a := l.Do(api.Op{Kind: api.OpPoll}); a.Code != api.OK || a.Task.Run != 1 || a.Task.Node != 0 || a.Task.Token != 1 || a.Task.Name != "a" {
		t.Errorf("P15.4: %+v", a)
	}
}

// P15.1: each condition of engine.From just kept, and broken alone. P15.2: that is Bytes' error too.
func TestCheck(t *testing.T) {
	kept, broken := map[string]int{}, map[string]int{}
	for _, x := range rows() {
		s, want := x.state(), api.ErrEngineState
		if x.may {
			kept[x.what]++
			want = api.OK
		} else {
			broken[x.what]++
		}
		if mayBe(s) != x.may {
			t.Errorf("%s: engine.From says otherwise than the row", x.what)
		}
		checks(t, "P15.1: "+x.what, s, want)
	}
	all := strings.Split("Now,NextRun,NextToken,runs,rising,ID,Key,keys,run.From,Submitted,due,live: due above Now,live: Ended 0,Ended: not below Submitted,Ended: not above Now,Ended: just the due,Ended: below the due,"+
		"Token,tokens,Worker,no Token,no Worker,tasks,Ready: once,Ready: ready nodes,Ready: lanes,Ready: all,timers: rising,timers: above Now,timers: not above the due,"+
		"the deadline's time,the close's time,the beat's time,the wake's time,one deadline,one close,one beat,one wake,no others,deadline ahead,close ahead", ",")
	for _, what := range all {
		if broken[what] == 0 {
			t.Errorf("%q was never broken", what)
		}
	}
	if len(broken) != len(all) || len(kept) < 15 {
		t.Errorf("%d conditions were broken, %d kept; there are %d", len(broken), len(kept), len(all))
	}
}

// P15.1, P15.2: states that are nothing's.
func TestCheckAnything(t *testing.T) {
	long := func(n int) []byte { return make([]byte, n) }
	for _, s := range []api.State{{}, {NextRun: 1}, {NextToken: 1}, {NextRun: 1, NextToken: 1, Runs: make([]api.RunState, 1)}, {NextRun: 1, NextToken: 1, Ready: make([]api.Ref, 1)}, {NextRun: 1, NextToken: 1, Timers: make([]api.Timer, 1)},
		{NextRun: 9, NextToken: 9, Runs: make([]api.RunState, 1<<18)}, {NextRun: 9, NextToken: 9, Ready: make([]api.Ref, 1<<18)}, {NextRun: 9, NextToken: 9, Timers: make([]api.Timer, 1<<18)},
		{Now: math.MinInt, Luck: math.MaxUint64, NextRun: math.MinInt, NextToken: math.MinInt}, {Now: math.MaxInt, NextRun: math.MaxInt, NextToken: math.MaxInt},
		{NextRun: 9, NextToken: 9, Runs: []api.RunState{{ID: 1, Key: string(long(1 << 20)), Status: 1, Nodes: []api.NodeState{{State: 5, Attempts: 1, Result: long(1 << 20)}}}}}} {
		if code := Check(s); code != api.ErrEngineState {
			t.Errorf("P15.1: %d", code)
		}
		if b, code := Bytes(s); len(b) != 0 || code != api.ErrEngineState {
			t.Errorf("P15.2: %d bytes, %d", len(b), code)
		}
	}
}

// atBounds has each field as great as it may be, as far as it can beside the others: one at the last time, and one with what is live, a tick ahead of it.
func atBounds() (ended, live api.State) {
	const last, count = 1 << 62, 1 << 40
	p := planOf(1, api.Node{Name: strings.Repeat("n", 40), Lane: 15, Budget: 100, Close: count, Beat: count, Base: count, Cap: count, Jitter: count})
	p.Name = strings.Repeat("p", 40)
	ended = api.State{Now: last, Luck: math.MaxUint64, NextRun: count + 1, NextToken: count + 1}
	ended.Runs = []api.RunState{{ID: count, Key: strings.Repeat("\xff", 40), Plan: p, Status: 5, Submitted: last - 1, Ended: last, Nodes: []api.NodeState{{State: 6, Attempts: 100}}}}
	live = api.State{Now: last - 1, Luck: 1 << 63, NextRun: count + 1, NextToken: count + 1}
	q := planOf(1)
	nodes := make([]api.NodeState, 64)
	for i := range nodes {
		n := p.Nodes[0]
		n.Name = strings.Repeat("m", 1+i%40) + strings.Repeat("o", i/40)
		q.Nodes = append(q.Nodes, n)
		nodes[i] = api.NodeState{State: 5, Attempts: 100, Result: bytes.Repeat([]byte{255}, 64)}
	}
	nodes[61] = api.NodeState{State: 4, Attempts: 99}
	nodes[62] = api.NodeState{State: 2, Attempts: 99}
	nodes[63] = api.NodeState{State: 3, Attempts: 100, Token: count, Worker: count}
	live.Runs = []api.RunState{{ID: count, Plan: q, Status: 1, Submitted: last - 1, Nodes: nodes}}
	live.Ready = []api.Ref{{Run: count, Node: 62}}
	live.Timers = []api.Timer{{Due: last, Kind: 1, Run: count}, {Due: last, Kind: 2, Run: count, Node: 63}, {Due: last, Kind: 3, Run: count, Node: 63}, {Due: last, Kind: 4, Run: count, Node: 61}}
	return ended, live
}

// P15.2: byte by byte, each field at its bounds.
func TestBytesByHand(t *testing.T) {
	last, count := []byte{128, 128, 128, 128, 128, 128, 128, 128, 64}, []byte{128, 128, 128, 128, 128, 32}
	before := []byte{255, 255, 255, 255, 255, 255, 255, 255, 63}
	full := func(n int, b byte) []byte { return bytes.Repeat([]byte{b}, n) }
	ended, live := atBounds()
	want := slices.Concat([]byte{73}, last, full(8, 255), []byte{129, 128, 128, 128, 128, 32, 129, 128, 128, 128, 128, 32, 1},
		count, []byte{40}, full(40, 255), []byte{40}, full(40, 'p'), []byte{1, 1, 40}, full(40, 'n'), []byte{15, 100}, count, count, count, count, count, []byte{0, 0},
		[]byte{5}, before, last, []byte{1, 6, 100, 0, 0, 0, 0, 0})
	if b := checks(t, "P15.2", ended, api.OK); !bytes.Equal(b, want) {
		t.Errorf("P15.2: %v;\nwant %v", b, want)
	}
	reads(t, "P15.3", want, ended, api.OK)
	b := checks(t, "P15.2", live, api.OK)
	head := slices.Concat([]byte{73}, before, full(7, 0), []byte{128, 129, 128, 128, 128, 128, 32, 129, 128, 128, 128, 128, 32, 1}, count, []byte{0, 1, 'p', 1, 64, 1, 'm'})
	tail := slices.Concat([]byte{5, 100, 0, 0, 64}, full(64, 255), []byte{4, 99, 0, 0, 0, 2, 99, 0, 0, 0, 3, 100}, count, count, []byte{0},
		[]byte{1}, count, []byte{62}, []byte{4}, last, []byte{1}, count, []byte{0}, last, []byte{2}, count, []byte{63}, last, []byte{3}, count, []byte{63}, last, []byte{4}, count, []byte{61})
	if !bytes.HasPrefix(b, head) || !bytes.HasSuffix(b, tail) {
		t.Errorf("P15.2: %v;\nwant %v\n.. %v", b, head, tail)
	}
	reads(t, "P15.3", b, live, api.OK)
}

// P15.2, P15.3: of all that may be: as the tables say; the greatest lists too.
func TestBytesAsTables(t *testing.T) {
	ended, live := atBounds()
	for _, s := range append(gallery(t), ended, live, many(256)(), tasks()(), busy()) {
		want := laid(s)
		if b := checks(t, "P15.2", s, api.OK); !bytes.Equal(b, want) {
			t.Fatalf("P15.2: Bytes(%s): %v;\nwant %v", told(s), b, want)
		}
		reads(t, "P15.3", want, s, api.OK)
	}
}

// P15.3: bytes whose fields may be so each, in a state that may not; and those whose fields may not.
func TestReadNoStates(t *testing.T) {
	fit := 0
	for _, x := range rows() {
		if x.may {
			continue
		}
		s := x.state()
		if fits(s) {
			fit++
		}
		reads(t, "P15.3: "+x.what, laid(s), api.State{}, api.ErrImageBytes)
	}
	if fit < 90 {
		t.Errorf("only %d have fields that may be so", fit)
	}
}

// small are images whose every byte can be turned.
func small(t *testing.T) [][]byte {
	return [][]byte{laid(fresh()), exampleBytes(), laid(mixed()), laid(crowd(2, 1)), laid(atEnd())}
}

// P15.3: one byte less, wherever, one more, wherever, and all that an image begins with.
func TestReadJust(t *testing.T) {
	for _, b := range small(t) {
		for i := range len(b) {
			reads(t, "P15.3", b[:i], api.State{}, api.ErrImageBytes)
			asMeant(t, "P15.3", slices.Concat(b[:i], b[i+1:]))
			for _, more := range []byte{0, 1, 73, 128, b[i]} {
				asMeant(t, "P15.3", slices.Concat(b[:i], []byte{more}, b[i:]))
			}
		}
		for more := range 256 {
			reads(t, "P15.3", append(slices.Clone(b), byte(more)), api.State{}, api.ErrImageBytes)
		}
		reads(t, "P15.3", slices.Concat(b, b), api.State{}, api.ErrImageBytes)
		reads(t, "P15.3", slices.Concat(b, make([]byte, 1000)), api.State{}, api.ErrImageBytes)
	}
}

// P15.3: one byte turned, wherever: in short images to whatever, in longer ones to what is about it; some are images of other states.
func TestReadTurned(t *testing.T) {
	t.Parallel()
	others := 0
	for _, b := range small(t) {
		for i, was := range b {
			for by := 1; by < 256; by++ {
				if len(b) > 100 && by > 2 && by < 254 && by != 128 && by != 127 {
					continue
				}
				b[i] = was + byte(by)
				if asMeant(t, "P15.3", b) == api.OK {
					others++
				}
			}
			b[i] = was
		}
		for letter := range 256 {
			if letter != 73 {
				reads(t, "P15.3", append([]byte{byte(letter)}, b[1:]...), api.State{}, api.ErrImageBytes)
			}
		}
	}
	if others < 1000 {
		t.Errorf("only %d are images", others)
	}
}

// P15.3: each field turned to numbers about its bounds, and to forms that are none.
func TestReadFields(t *testing.T) {
	t.Parallel()
	numbers := []uint64{0, 1, 2, 3, 4, 5, 6, 7, 8, 39, 40, 41, 63, 64, 65, 100, 101, 127, 128, 255, 256, 257, 1023, 1024, 1025, 4095, 4096, 4097, 1<<40 - 1, 1 << 40, 1<<40 + 1, 1<<40 + 2, 1<<62 - 1, 1 << 62, 1<<62 + 1, 1<<63 - 1, 1 << 63, 1<<64 - 1}
	ended, live := atBounds()
	seen := map[string]int{}
	for _, s := range []api.State{mixed(), ended, live} {
		b, all, here := laid(s), spots(s), map[string]int{}
		for i, x := range all {
			seen[x.name]++
			if here[x.name]++; here[x.name] > 3 && i < len(all)-40 { // not all nodes' fields: the first ones, and what stands last
				continue
			}
			is := b[x.from:x.to]
			forms := [][]byte{nil, {128}, {128, 0}, append(slices.Clone(is), is...), bytes.Repeat([]byte{255}, 9), bytes.Repeat([]byte{255}, 12)}
			longer := slices.Clone(is)
			longer[len(longer)-1] |= 128
			forms = append(forms, append(longer, 0), append(slices.Clone(longer), 128, 0))
			for _, n := range numbers {
				forms = append(forms, numberOf(n))
			}
			for _, form := range forms {
				asMeant(t, "P15.3: "+x.name, slices.Concat(b[:x.from], form, b[x.to:]))
			}
		}
	}
	if len(seen) != 40 {
		t.Errorf("%d fields were turned: %v", len(seen), seen)
	}
}

// P15.3: rows of bytes that are far from an image: it is told at once, however great the numbers are.
func TestReadAnything(t *testing.T) {
	none := laid(fresh())
	for _, b := range [][]byte{{}, {73}, {0}, {255}, bytes.Repeat([]byte{73}, 100), bytes.Repeat([]byte{255}, 100), make([]byte, 100), make([]byte, api.MaxLen), make([]byte, api.MaxLen+1),
		append(slices.Clone(none), make([]byte, api.MaxLen)...), append(slices.Clone(none), make([]byte, api.MaxLen-len(none))...),
		slices.Concat(none[:12], numberOf(1<<62)), slices.Concat(none[:12], numberOf(256), make([]byte, 1<<16)), slices.Concat(none[:13], numberOf(1024), make([]byte, 1<<16)), slices.Concat(none[:14], numberOf(4096), make([]byte, 1<<16)),
		slices.Concat(none[:13], numberOf(1025), bytes.Repeat([]byte{1, 0}, 1025), []byte{0}), slices.Concat(none[:14], numberOf(4097), bytes.Repeat([]byte{1, 1, 1, 0}, 4097)), slices.Concat(none[:14], numberOf(4096), bytes.Repeat([]byte{1, 1, 1, 0}, 4096))} {
		if s, code := Read(b); code != api.ErrImageBytes || told(s) != told(api.State{}) {
			t.Errorf("P15.3: %d bytes: %d", len(b), code)
		}
		if e, code := Load(b); code != api.ErrImageBytes || e != nil {
			t.Errorf("P15.4: %d bytes: %d", len(b), code)
		}
	}
}

// P15.4: Save is the image of State, of engines that were made in any way; what none has made is refused.
func TestSave(t *testing.T) {
	r := chance(1)
	for i := range 200 {
		e := course(r, i)
		b, code := Save(e)
		if want := laid(e.State()); !bytes.Equal(b, want) || code != api.OK {
			t.Fatalf("P15.4: %v, %d; want %v", b, code, want)
		}
		if again, _ := Save(e.Copy()); !bytes.Equal(again, b) {
			t.Fatalf("P15.4: a copy's image is %v, not %v", again, b)
		}
		reads(t, "P15.4", b, e.State(), api.OK)
	}
	for _, s := range gallery(t) {
		e, _ := engine.From(s)
		if b, code := Save(e); !bytes.Equal(b, laid(s)) || code != api.OK {
			t.Fatalf("P15.4: Save of %s: %v, %d", told(s), b, code)
		}
	}
	for _, e := range []*engine.Engine{nil, {}, new(engine.Engine)} {
		if b, code := Save(e); len(b) != 0 || code != api.ErrArg {
			t.Errorf("P15.4, R1: %v, %d", b, code)
		}
	}
}

// The forms refuse what the tables do not name, whatever engine.From would say: they are asked alone.
func TestForms(t *testing.T) {
	for _, x := range rows() {
		s := x.state()
		_, code := pack.Bytes(images(), s, api.MaxImage)
		if x.may && code != api.OK {
			t.Errorf("P15.2: %s: %d", x.what, code)
		}
		if !fits(s) && code == api.OK {
			t.Errorf("P15.2: %s: a field that may not be so was put", x.what)
		}
	}
	for more := range 2 {
		ready, timers, nodes := fresh(), fresh(), many(1)()
		nodes.Runs[0].Nodes = slices.Repeat([]api.NodeState{{State: 6}}, 64+more)
		ready.Ready, timers.Timers = slices.Repeat([]api.Ref{{Run: 1}}, 1024+more), slices.Repeat([]api.Timer{{Kind: 1, Run: 1}}, 4096+more)
		for _, s := range []api.State{ready, timers, nodes, many(256 + more)()} {
			_, put := pack.Bytes(images(), s, api.MaxImage)
			if _, taken := pack.Read(images(), laid(s)); (put == api.OK) != (more == 0) || (taken == api.OK) != (more == 0) {
				t.Errorf("P15.2, P15.3: %d more than may be: %d, %d", more, put, taken)
			}
		}
	}
	ended, live := atBounds()
	for _, s := range []api.State{ended, mixed(), live} {
		b := laid(s)
		for _, x := range spots(s)[:min(250, len(spots(s)))] {
			for _, n := range []uint64{0, 6, 8, 64, 101, 1<<40 + 1, 1<<40 + 2, 1<<62 + 1} {
				turned := slices.Concat(b[:x.from], numberOf(n), b[x.to:])
				if got, code := pack.Read(images(), turned); code == api.OK && (!fits(got) || !bytes.Equal(laid(got), turned)) {
					t.Fatalf("P15.3: %s: %d was taken", x.name, n)
				}
			}
		}
	}
}
