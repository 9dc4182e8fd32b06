package durable

import (
	"fmt"
	"math"
	"slices"
	"strings"
	"testing"

	"escapement/api"
	"escapement/disk"
	"escapement/engine"
	"escapement/journal"
)

// The calls, P17.1 to P17.4 and P17.9: each call, with what stands on the disk then.

const big = 1 << 20

// opened is a store on a disk that must open.
func opened(t *testing.T, promise string, d *disk.Disk) *Store {
	t.Helper()
	s, code := Open(d)
	if s == nil || code != api.OK {
		t.Fatalf("%s: Open: %v, %d", promise, s, code)
	}
	return s
}

// toldEngine is one that was told operations that are all let pass.
func toldEngine(t *testing.T, ops ...api.Op) *engine.Engine {
	t.Helper()
	e := engine.New()
	for _, o := range ops {
		if a := e.Do(o); a.Code != api.OK {
			t.Fatalf("an operation of this test is refused: %+v: %d", o, a.Code)
		}
	}
	return e
}

// course leads to an operation that is let pass and turns something.
type course struct {
	what string
	lead []api.Op
	op   api.Op
}

// courses are of each kind of operation, and of all that can come of it.
func courses() []course {
	p, signs := line(), beating(line())
	long := submit(plain(64), strings.Repeat("k", 40))
	return []course{
		{"Submit", nil, submit(p, "k")},
		{"Submit without a key", []api.Op{submit(p, "")}, submit(p, "")},
		{"Submit of another key", []api.Op{submit(p, "k"), submit(p, "")}, submit(p, "l")},
		{"Submit of a key that was forgotten", []api.Op{submit(p, "k"), cancel(1), forget(1)}, submit(p, "k")},
		{"Submit of 64 nodes", []api.Op{tick(1 << 50)}, long},
		{"Poll", []api.Op{submit(p, "")}, api.Op{Kind: api.OpPoll, Worker: 1 << 40}},
		{"Poll with inputs", []api.Op{submit(p, ""), poll(0), complete(1, "some result")}, poll(0)},
		{"Poll where signs of life are wanted", []api.Op{submit(signs, "")}, poll(0)},
		{"Beat", []api.Op{submit(signs, ""), poll(0), tick(1)}, beat(1)},
		{"Beat at the same time", []api.Op{submit(signs, ""), poll(0)}, beat(1)},
		{"Complete", []api.Op{submit(p, ""), poll(0)}, complete(1, "some result")},
		{"Complete with 64 bytes", []api.Op{submit(p, ""), poll(0)}, complete(1, strings.Repeat("\x00\xff", 32))},
		{"Complete, and the run has ended", []api.Op{submit(of(nodeOf("a")), ""), poll(0)}, complete(1, "")},
		{"Fail", []api.Op{submit(p, ""), draw(3), poll(0)}, fail(1)},
		{"Fail, and the run has ended", []api.Op{submit(p, ""), poll(0), fail(1), tick(4), poll(0)}, fail(2)},
		{"Cancel", []api.Op{submit(p, "k"), poll(0)}, cancel(1)},
		{"Forget", []api.Op{submit(p, "k"), tick(100)}, forget(1)},
		{"Draw", []api.Op{submit(p, "k")}, draw(1<<64 - 1)},
		{"Draw of 0", nil, draw(0)},
		{"Tick of 0", nil, tick(0)},
		{"Tick of 0 with timers", []api.Op{submit(p, "k")}, tick(0)},
		{"Tick", []api.Op{submit(p, "k"), poll(0)}, tick(9)},
		{"Tick with timers that come", []api.Op{submit(p, "k"), submit(signs, ""), poll(0), poll(0)}, tick(1000)},
		{"Tick to the last time", []api.Op{submit(p, "k"), poll(0)}, tick(1 << 62)},
		{"Tick at the last time", []api.Op{tick(1 << 62)}, tick(1)},
	}
}

// ways are how the journal may stand: without a segment that it has made, with one, with an image.
var ways = []string{"told so", "opened anew", "compacted", "compacted and opened anew"}

// led is a desk on a disk of a capacity that a course's lead was told.
func led(t *testing.T, promise string, way string, c course, capacity int) *desk {
	t.Helper()
	k := on(t, promise+": "+c.what+", "+way, empty(t, capacity)).pass(c.lead...)
	if strings.HasPrefix(way, "compacted") {
		k.is(k.compact(), api.OK)
	}
	if strings.HasSuffix(way, "opened anew") {
		k.is(k.open(), api.OK)
	}
	return k
}

// stood is what stands on the disk where a course was led to, and then what its operation is laid into: the segment, and the text ahead of its record.
func (c course) stood(t *testing.T, way string) (there map[int]string, seg int, ahead string) {
	t.Helper()
	there = map[int]string{}
	n := len(c.lead) + 1
	anew := strings.HasSuffix(way, "opened anew")
	switch {
	case strings.HasPrefix(way, "compacted"):
		seg = 1 + min(n-1, 1) // of nothing the image is the first segment
		there[seg] = head(seg, n) + picture(n, imageOf(t, toldEngine(t, c.lead...).State()))
	case n > 1:
		seg = 1
		there[1] = head(1, 1) + picture(1, "") + records(1, bytesOf(t, c.lead...)...)
	default:
		return there, 1, head(1, 1) + picture(1, "")
	}
	if anew {
		return there, seg + 1, head(seg+1, n)
	}
	return there, seg, ""
}

// P17.1: no disk, one whose power is off, and one on which the power goes.
func TestOpenNone(t *testing.T) {
	if s, code := Open(nil); s != nil || code != api.ErrArg {
		t.Errorf("P17.1: Open(nil): %v, %d", s, code)
	}
	off := spend(empty(t, big))
	if s, code := Open(off); s != nil || code != api.ErrDiskDown {
		t.Errorf("P17.1: the power is off: %v, %d", s, code)
	}
	// An image behind three segments that a crash has brought back: Open calls Sync and three times Remove.
	k := on(t, "P17.1", empty(t, big)).pass(submit(line(), "k"))
	for range 2 {
		k.open()
		k.pass(draw(1))
	}
	k.compact()
	k.crash([]int{1, 1, 1})
	if list, _ := k.d.List(); !slices.Equal(list, []int{1, 2, 3, 4}) {
		t.Fatalf("P17.1: segments %v", list)
	}
	want := k.s.State()
	for calls := range 5 {
		d := k.d.Copy()
		d.Arm(calls)
		s, code := Open(d)
		if off := calls < 4; off != (code == api.ErrDiskDown) || off != (s == nil) || off != d.Down() {
			t.Fatalf("P17.1: the power goes in call %d: %v, %d", calls, s, code)
		}
		for _, fate := range [][]int{nil, {1}, {0, 1}, {1, 0, 1}, {1, 1, 1, 1}} {
			c := d.Copy()
			c.Crash(fate)
			if got := opened(t, "P17.1", c).State(); !sameState(got, want) {
				t.Fatalf("P17.1: the power went in call %d, fate %v: %+v; want %+v", calls, fate, got, want)
			}
		}
	}
}

// R1: a disk that no call has made has no room, but lets nothing panic.
func TestOpenOfNoMake(t *testing.T) {
	k := on(t, "P17.1, R1", new(disk.Disk))
	k.refuses(api.ErrDiskFull, tick(0), submit(line(), ""))
	k.refuses(api.ErrEngineEmpty, poll(0))
	k.is(k.compact(), api.ErrDiskFull)
}

// P17.1: an empty disk, or one that holds nothing, is a new engine; nothing is laid.
func TestOpenEmpty(t *testing.T) {
	for what, segs := range map[string]map[int]string{
		"empty": {}, "an empty segment": {3: ""}, "a head": {3: head(3, 1)}, "records without an image": {1: head(1, 1) + record(1, "\x09\x05")}, "rubbish": {1: "ESC1", 9: strings.Repeat("x", 100)},
	} {
		d := laid(t, segs)
		sameViews(t, "P17.1: "+what, opened(t, "P17.1: "+what, d), engine.New())
		lies(t, "P17.1: "+what, d, segs)
	}
	for capacity := range 200 {
		if s := opened(t, "P17.1", empty(t, capacity)); s.Now() != 0 {
			t.Errorf("P17.1: Now is %d", s.Now())
		}
	}
}

// P17.1: what is no image.
func TestOpenNoImage(t *testing.T) {
	s := toldEngine(t, submit(line(), "k"), poll(0)).State()
	whole := imageOf(t, s)
	s.Timers = s.Timers[1:]
	bad := map[string]string{"a byte": "\x01", "a byte that is 0": "\x00", "another letter": "J" + whole[1:], "too short": whole[:len(whole)-1], "too long": whole + "\x00", "twice": whole + whole,
		"the letter alone": "I", "a timer turned": whole[:len(whole)-4] + "\x0b" + whole[len(whole)-3:], "a great one": strings.Repeat("\xff", api.MaxImage)}
	tick := bytesOf(t, tick(1))[0]
	for what, b := range bad {
		for _, behind := range []string{"", record(7, tick), record(7, "\x63")} {
			segs := map[int]string{4: head(4, 7) + picture(7, b) + behind}
			d := laid(t, segs)
			for range 2 {
				if s, code := Open(d); s != nil || code != api.ErrImageBytes {
					t.Errorf("P17.1: %s: %v, %d", what, s, code)
				}
			}
			lies(t, "P17.1: "+what, d, segs)
		}
	}
	d := laid(t, map[int]string{4: head(4, 7) + picture(7, whole)})
	sameViews(t, "P17.1", opened(t, "P17.1", d), toldEngine(t, submit(line(), "k"), poll(0)))
}

// P17.1: what is no record: no operation, or one that the engine refuses; wherever it stands, behind an image or none.
func TestOpenNoRecord(t *testing.T) {
	lead := []api.Op{submit(line(), "k"), poll(0), tick(1)}
	good := bytesOf(t, lead...)
	none := []string{"", "\x00", "\x63", "\x0a\x00", "\x09", "\x09\x00\x00", "\x09\x80\x00", "\x02\x10\x00", "\x03\x00", good[0][:len(good[0])-1], good[0] + "\x00", strings.Repeat("\x09", 10000)}
	other := until(line(), 99)
	refused := bytesOf(t, submit(other, "k"), poll(1), poll(0), beat(2), complete(2, ""), fail(9), cancel(2), forget(1), forget(3))
	for _, bad := range append(none, refused...) {
		for _, behind := range [][]string{nil, {good[2]}, {"\x63"}} {
			list := append(append(slices.Clone(good), bad), behind...)
			from := toldEngine(t, lead[:2]...).State()
			for what, segs := range map[string]map[int]string{
				"without an image":    {1: head(1, 1) + picture(1, "") + records(1, list...)},
				"behind an image":     {8: head(8, 5) + picture(5, imageOf(t, from)) + records(5, list[2:]...)},
				"in another segment":  {1: head(1, 1) + picture(1, "") + records(1, good...), 2: head(2, 4) + records(4, list[3:]...)},
				"in a number of them": {1: head(1, 1) + picture(1, "") + record(1, good[0]), 2: head(2, 2) + records(2, good[1:]...), 5: head(5, 4) + records(4, list[3:]...)},
			} {
				d := laid(t, segs)
				for range 2 {
					if s, code := Open(d); s != nil || code != api.ErrDurableRecord {
						t.Fatalf("P17.1: %x %s: %v, %d", bad, what, s, code)
					}
				}
				lies(t, "P17.1", d, segs)
			}
		}
	}
	// As the first one of all.
	for _, bad := range append(none, bytesOf(t, poll(0), beat(1), complete(1, ""), fail(1), cancel(1), forget(1))...) {
		d := laid(t, map[int]string{1: head(1, 1) + picture(1, "") + record(1, bad)})
		if s, code := Open(d); s != nil || code != api.ErrDurableRecord {
			t.Errorf("P17.1: %x first: %v, %d", bad, s, code)
		}
	}
}

// P17.1: what may be: an image, records, both; also records that turn nothing, which no store lays.
func TestOpenMay(t *testing.T) {
	signs := beating(line())
	ops := []api.Op{submit(line(), "k"), submit(line(), "k"), submit(signs, ""), poll(0), beat(1), poll(0), beat(2), tick(2), beat(2), complete(1, "one"), draw(9), fail(2), poll(0), tick(7), cancel(2), tick(300), forget(1), submit(line(), "k")}
	list := bytesOf(t, ops...)
	for at := range len(ops) + 1 {
		pic := imageOf(t, toldEngine(t, ops[:at]...).State())
		for end := at; end <= len(ops); end++ {
			want := toldEngine(t, ops[:end]...)
			for what, segs := range map[string]map[int]string{
				"records":         {1: head(1, 1) + picture(1, "") + records(1, list[:end]...)},
				"an image":        {6: head(6, 20) + picture(20, pic) + records(20, list[at:end]...)},
				"two segments":    {6: head(6, 20) + picture(20, pic), 9: head(9, 20) + records(20, list[at:end]...)},
				"an older image":  {2: head(2, 3) + picture(3, "\x01") + record(3, "\x63"), 6: head(6, 20) + picture(20, pic) + records(20, list[at:end]...)},
				"what is no more": {6: head(6, 20) + picture(20, pic) + records(20, list[at:end]...) + record(19, "\x63")},
			} {
				d := laid(t, segs)
				sameViews(t, "P17.1: "+what, opened(t, "P17.1: "+what, d), want)
			}
		}
	}
}

// P17.1: the engine of the image, and of the records behind it, goes on as one that was told all.
func TestOpenGoesOn(t *testing.T) {
	for _, c := range courses() {
		want := toldEngine(t, c.lead...).Do(c.op)
		for _, way := range ways {
			k := led(t, "P17.1", way, c, big)
			for range 3 {
				k.is(k.open(), api.OK)
				sameViews(t, "P17.1: "+c.what, k.s, toldEngine(t, c.lead...))
			}
			if got := k.do(c.op); !sameAnswer(got, want) {
				t.Errorf("P17.1: %s, %s: %+v; want %+v", c.what, way, got, want)
			}
			k.open()
			sameViews(t, "P17.1: "+c.what, k.s, toldEngine(t, append(c.lead, c.op)...))
		}
	}
}

// refusals are operations that an engine refuses, by its errors.
func refusals() map[api.Errno][]api.Op {
	p := line()
	return map[api.Errno][]api.Op{
		api.ErrCodecOp:      {{}, {Kind: 10}, {Kind: -1}, {Kind: 77}, {Kind: math.MinInt}, {Kind: api.OpPoll, Lane: 16}, {Kind: api.OpPoll, Run: 1}, beat(0), beat(-1), complete(1, strings.Repeat("r", 65)), fail(1<<40 + 1), cancel(0), forget(0), tick(-1), tick(1<<62 + 1), submit(p, strings.Repeat("k", 41)), {Kind: api.OpDraw, Ticks: 1}},
		api.ErrPlanName:     {submit(api.Plan{}, "k")},
		api.ErrPlanDeadline: {submit(until(p, 0), "k")},
		api.ErrPlanSize:     {submit(of(), ""), submit(plain(65), "")},
		api.ErrPlanNode:     {submit(of(nodeOf("a"), nodeOf("a")), "")},
		api.ErrPlanField:    {submit(of(api.Node{Name: "a"}), "")},
		api.ErrPlanEdge:     {submit(of(nodeOf("a", 1)), "")},
		api.ErrPlanCycle:    {submit(of(nodeOf("a", 1), nodeOf("b", 0)), "")},
		api.ErrEngineKey:    {submit(until(p, 99), "k")},
		api.ErrEngineEmpty:  {poll(1), poll(15)},
		api.ErrEngineToken:  {beat(2), complete(2, "r"), fail(2), beat(1 << 40)},
		api.ErrEngineRun:    {cancel(3), forget(3), cancel(1 << 40)},
		api.ErrEngineEnded:  {forget(1), cancel(2)},
	}
}

// P17.2: what the engine refuses is answered so: nothing is laid, the power stays as it is armed; also where the disk has no room, or its power is off.
func TestDoRefused(t *testing.T) {
	lead := []api.Op{submit(line(), "k"), submit(line(), ""), cancel(2), poll(0)}
	used := big - room(t, on(t, "P17.2", empty(t, big)).pass(lead...).d)
	for code, ops := range refusals() {
		on(t, "P17.2", empty(t, big)).pass(lead...).refuses(code, ops...)
		on(t, "P17.2, no room", empty(t, used)).pass(lead...).refuses(code, ops...).refuses(api.ErrDiskFull, tick(0))
		for calls := range 3 {
			k := on(t, "P17.2, armed", empty(t, big)).pass(lead...)
			k.arm(calls)
			k.refuses(code, ops...)
		}
		k := on(t, "P17.2, off", empty(t, big)).pass(lead...)
		spend(k.d)
		spend(k.twin)
		k.refuses(code, ops...)
		k.refuses(api.ErrDiskDown, tick(0)).refuses(api.ErrDurableDead, ops...)
	}
}

func room(t *testing.T, d *disk.Disk) int {
	t.Helper()
	n, code := d.Room()
	if code != api.OK {
		t.Fatal(code)
	}
	return n
}

// P17.2: the engine's limits: no room for a run, or for its nodes, no number, no time.
func TestDoLimits(t *testing.T) {
	many := on(t, "P17.2", empty(t, big))
	for range 16 {
		many.s.Do(submit(plain(64), ""))
		many.m.Do(submit(plain(64), ""))
	}
	many.refuses(api.ErrEngineFull, submit(of(nodeOf("a")), ""))
	runs := api.State{NextRun: 257, NextToken: 1}
	for id := 1; id <= 256; id++ {
		runs.Runs = append(runs.Runs, api.RunState{ID: id, Plan: of(nodeOf("a")), Status: api.RunCancelled, Nodes: []api.NodeState{{State: api.NodeDead}}})
	}
	last := toldEngine(t, submit(line(), "k")).State()
	last.NextRun, last.NextToken = 1<<40+1, 1<<40+1
	for _, x := range []struct {
		s    api.State
		code api.Errno
		op   api.Op
	}{
		{runs, api.ErrEngineFull, submit(line(), "k")},
		{last, api.ErrEngineNumber, submit(line(), "l")},
		{last, api.ErrEngineNumber, poll(0)},
		{api.State{Now: 1<<62 - 99, NextRun: 1, NextToken: 1}, api.ErrEngineTime, submit(line(), "k")},
	} {
		k := on(t, "P17.2", laid(t, map[int]string{1: head(1, 1) + picture(1, imageOf(t, x.s))}))
		k.refuses(x.code, x.op)
		k.pass(tick(0))
	}
}

// P17.2: what turns nothing is answered, and nothing is laid; also where the disk has no room, or its power is off.
func TestDoTurnsNothing(t *testing.T) {
	p := line()
	p.Nodes[1].Beat, p.Nodes[1].Lane, p.Nodes[1].Needs = 3, 1, nil
	lead := []api.Op{submit(p, "k"), submit(p, ""), poll(0), poll(1), submit(line(), "l"), cancel(3)}
	again := func(run int, key string, p api.Plan) (api.Op, api.Answer) {
		return submit(p, key), api.Answer{Run: run, Again: true}
	}
	used := big - room(t, on(t, "P17.2", empty(t, big)).pass(lead...).d)
	for what, lay := range map[string]func() *desk{
		"":         func() *desk { return on(t, "P17.2", empty(t, big)).pass(lead...) },
		", full":   func() *desk { return on(t, "P17.2", empty(t, used)).pass(lead...) },
		", opened": func() *desk { return on(t, "P17.2", empty(t, big)).pass(lead...).fork() },
		", armed": func() *desk {
			k := on(t, "P17.2", empty(t, big)).pass(lead...)
			k.arm(0)
			return k
		},
		", off": func() *desk {
			k := on(t, "P17.2", empty(t, big)).pass(lead...)
			spend(k.d)
			spend(k.twin)
			return k
		},
	} {
		k := lay()
		nothing := func(o api.Op, want api.Answer) {
			t.Helper()
			k.leaves(func() {
				if a := k.do(o); !sameAnswer(a, want) {
					t.Errorf("P17.2%s: %s: %+v; want %+v", what, toldOp(o), a, want)
				}
			})
		}
		for range 2 {
			nothing(again(1, "k", p))
			nothing(again(3, "l", line())) // one that has ended, too
			nothing(beat(1), api.Answer{})
		}
		k.refuses(api.ErrEngineKey, submit(line(), "k"))
	}
	// The same ones turn something where they are others: another key, none, a token whose node wants signs of life.
	k := on(t, "P17.2", empty(t, big)).pass(lead...)
	for _, o := range []api.Op{submit(p, "other"), submit(p, ""), submit(p, ""), beat(2), beat(2), forget(3), submit(line(), "l")} {
		n := room(t, k.d)
		k.pass(o)
		if laid := n - room(t, k.d); laid != 17+len(bytesOf(t, o)[0]) {
			t.Errorf("P17.2: %s: %d bytes were laid", toldOp(o), laid)
		}
	}
}

// P17.2: each kind is answered as the engine does, and its bytes stand on the disk, safe, byte for byte.
func TestDoLaid(t *testing.T) {
	for _, c := range courses() {
		want := toldEngine(t, c.lead...).Do(c.op)
		for _, way := range ways {
			k := led(t, "P17.2", way, c, big)
			there, seg, ahead := c.stood(t, way)
			lies(t, "P17.2: "+c.what+", "+way, k.d, there)
			if got := k.do(c.op); !sameAnswer(got, want) || got.Code != api.OK {
				t.Fatalf("P17.2: %s, %s: %+v; want %+v", c.what, way, got, want)
			}
			there[seg] += ahead + record(len(c.lead)+1, bytesOf(t, c.op)[0])
			lies(t, "P17.2: "+c.what+", "+way, k.d, there)
			sameViews(t, "P17.2: "+c.what, k.s, toldEngine(t, append(c.lead, c.op)...))
		}
	}
}

// P17.2: a segment that is full is left for the next one.
func TestDoSegments(t *testing.T) {
	k := on(t, "P17.2", empty(t, big))
	p := plain(64)
	for i := range p.Nodes {
		p.Nodes[i].Name = strings.Repeat("n", 38) + fmt.Sprint(10+i)
	}
	for i := range 45 {
		k.pass(submit(p, fmt.Sprint("k", i)), cancel(i+1))
	}
	if list, _ := k.d.List(); !slices.Equal(list, []int{1, 2, 3}) {
		t.Errorf("P17.2: segments %v", list)
	}
	k.open()
	k.pass(draw(1))
	k.is(k.compact(), api.OK)
	if list, _ := k.d.List(); !slices.Equal(list, []int{5}) {
		t.Errorf("P17.3: segments %v", list)
	}
	k.pass(draw(1)) // the image is more than a segment has: another one is wanted
	if list, _ := k.d.List(); !slices.Equal(list, []int{5, 6}) {
		t.Errorf("P17.2: segments %v", list)
	}
	k.open()
}

// P17.2: where the disk has room for all but one byte the operation is refused, and nothing has changed; with that byte it is done.
func TestDoFull(t *testing.T) {
	for _, c := range courses() {
		for _, way := range ways {
			full := led(t, "P17.2", way, c, big)
			used := big - room(t, full.d)
			_, _, ahead := c.stood(t, way)
			need := len(ahead) + 17 + len(bytesOf(t, c.op)[0])
			if ahead != "" {
				need += 64
			}
			// Compact needs its room beside what it will take away.
			roomy := max(used+need, 10000)
			for less := range 4 {
				k := led(t, "P17.2", way, c, roomy)
				fill(t, k, need-less)
				if less == 0 {
					k.pass(c.op)
					k.is(k.open(), api.OK)
					continue
				}
				k.refuses(api.ErrDiskFull, c.op, c.op)
				k.refuses(api.ErrEngineEmpty, poll(9)).refuses(api.ErrCodecOp, api.Op{}) // it is not dead
				k.is(k.open(), api.OK)
				sameViews(t, "P17.2: "+c.what, k.s, toldEngine(t, c.lead...))
			}
		}
	}
}

// fill leaves so much room on both disks: a segment that is none of the journal's takes what is too much.
func fill(t *testing.T, k *desk, left int) {
	t.Helper()
	list, _ := k.d.List()
	seg := 1 << 20
	if len(list) > 0 {
		seg = list[0] // the journal goes on behind the greatest; bytes behind its pieces are passed over
	}
	for _, d := range []*disk.Disk{k.d, k.twin} {
		much := room(t, d) - left
		if len(list) == 0 {
			d.Create(seg)
			much -= 64
		}
		if d.Append(seg, make([]byte, much)) != api.OK || d.Sync() != api.OK || room(t, d) != left {
			t.Fatal("the disk was not filled")
		}
	}
}

// P17.2: what does not fit is refused, what fits goes on; with an image in their place there is room again.
func TestDoFullAndOn(t *testing.T) {
	k := on(t, "P17.2", empty(t, 500))
	k.pass(submit(line(), "k"), poll(0))
	for k.do(draw(1)).Code == api.OK {
	}
	k.refuses(api.ErrDiskFull, draw(1), submit(line(), ""), complete(1, strings.Repeat("r", 64)), tick(0))
	k.refuses(api.ErrEngineToken, complete(2, ""))
	k.is(k.compact(), api.ErrDiskFull)
	k.is(k.open(), api.OK)
	k.refuses(api.ErrDiskFull, draw(1))
	for more := range 26 {
		k := on(t, "P17.2", empty(t, 500+more))
		k.pass(submit(line(), "k"), draw(1), draw(2))
		k.is(k.compact(), api.OK)
		k.pass(poll(0), complete(1, "r"))
		for k.do(draw(1)).Code == api.OK {
		}
		k.refuses(api.ErrDiskFull, draw(1))
		if room(t, k.d) >= 17+2 { // a tick has fewer bytes than a draw
			k.pass(tick(0))
		}
		k.refuses(api.ErrDiskFull, tick(0))
	}
}

// P17.2, P17.3: no number is left, of segments or of records.
func TestDoNumber(t *testing.T) {
	last := 1 << 40
	k := on(t, "P17.2", laid(t, map[int]string{last: "x"}))
	k.refuses(api.ErrJournalNumber, tick(1), submit(line(), "k"), draw(1)).refuses(api.ErrEngineEmpty, poll(0))
	k.leaves(func() { k.is(k.compact(), api.ErrJournalNumber) })
	k.is(k.open(), api.OK)

	k = on(t, "P17.2", laid(t, map[int]string{5: head(5, last) + picture(last, "")}))
	k.pass(submit(line(), "k"))
	k.refuses(api.ErrJournalNumber, tick(1), submit(line(), ""), draw(1), poll(0)).refuses(api.ErrEngineEmpty, poll(1))
	if a := k.do(submit(line(), "k")); !a.Again {
		t.Errorf("P17.2: %+v", a)
	}
	k.is(k.compact(), api.OK)
	k.refuses(api.ErrJournalNumber, tick(1))
	k.is(k.open(), api.OK)
	k.refuses(api.ErrJournalNumber, tick(1))
	lies(t, "P17.3", k.d, map[int]string{7: head(7, last+1) + picture(last+1, imageOf(t, toldEngine(t, submit(line(), "k")).State()))})
}

// dead holds that a store answers just one thing, and that its views stay; behind a Crash, too.
func dead(t *testing.T, k *desk) {
	t.Helper()
	for range 2 {
		for _, c := range courses() {
			k.refuses(api.ErrDurableDead, c.op)
		}
		k.refuses(api.ErrDurableDead, poll(9), api.Op{}, api.Op{Kind: 77}, beat(1), submit(line(), "k"), submit(line(), "l"))
		k.leaves(func() { k.is(k.compact(), api.ErrDurableDead) })
		k.crash(nil)
	}
}

// P17.2, P17.9: the power goes in each call on the disk: the engine stays as it was, the store is dead; then it has the operation, or not.
func TestDoLoses(t *testing.T) {
	t.Parallel()
	for i, c := range courses() {
		before, then := toldEngine(t, c.lead...), toldEngine(t, append(c.lead, c.op)...)
		for _, way := range ways {
			_, _, ahead := c.stood(t, way)
			calls := 2 // Append and Sync
			if ahead != "" {
				calls++
			}
			for call := range calls + 1 {
				k := led(t, "P17.2", way, c, big)
				k.arm(call)
				if call == calls {
					k.pass(c.op)
					continue
				}
				k.is(k.do(c.op).Code, api.ErrDiskDown)
				sameViews(t, "P17.2: "+c.what, k.s, before)
				at := k.d.Copy()
				if i%5 == 0 {
					dead(t, k)
				} else {
					k.refuses(api.ErrDurableDead, c.op, api.Op{}, poll(9), tick(0))
					k.is(k.compact(), api.ErrDurableDead)
				}
				outlives(t, "P17.2: "+c.what+", "+way, at, before, then)
			}
		}
	}
}

// outlives lets a disk have fates of every kind, and holds what is opened then against one engine or another; of each there must be some, if they are two.
func outlives(t *testing.T, promise string, d *disk.Disk, engines ...*engine.Engine) {
	t.Helper()
	if !d.Down() {
		t.Fatalf("%s: the power is on", promise)
	}
	for _, f := range []int{math.MinInt, 0, 1, 2, 18, 19, 25, 42, 60, math.MaxInt} {
		for _, fate := range [][]int{{f}, {0, f}, {1, f}, {f, f, f, f}} {
			c := d.Copy()
			c.Crash(fate)
			s := opened(t, promise, c)
			is := slices.IndexFunc(engines, func(e *engine.Engine) bool { return sameState(e.State(), s.State()) })
			if is < 0 {
				t.Fatalf("%s: fate %v: %+v", promise, fate, s.State())
			}
			sameViews(t, promise, s, engines[is])
			c.Crash(fate)
			sameViews(t, promise+", opened again", opened(t, promise, c), engines[is])
		}
	}
}

// P17.2: what was laid and not safe may stay or not, byte by byte.
func TestDoEveryByte(t *testing.T) {
	before, then := toldEngine(t, submit(line(), "k")), toldEngine(t, submit(line(), "k"), poll(0))
	record := 17 + len(bytesOf(t, poll(0))[0])
	for calls := range 2 {
		for f := range 30 {
			d := empty(t, big)
			s := opened(t, "P17.2", d)
			s.Do(submit(line(), "k"))
			d.Arm(calls)
			if a := s.Do(poll(0)); a.Code != api.ErrDiskDown {
				t.Fatalf("P17.2: %+v", a)
			}
			d.Crash([]int{f})
			want := before
			if f >= record {
				want = then
			}
			sameViews(t, fmt.Sprint("P17.2: fate ", f), opened(t, "P17.2", d), want)
		}
	}
}

// P17.3: Compact lays the image of the engine, safe, in the place of all; the engine stays.
func TestCompact(t *testing.T) {
	for _, c := range courses() {
		ops := append(slices.Clone(c.lead), c.op)
		e := toldEngine(t, ops...)
		for _, way := range ways {
			k := led(t, "P17.3", way, c, big).pass(c.op)
			list, _ := k.d.List()
			seg := list[len(list)-1]
			for range 3 {
				seg++
				k.is(k.compact(), api.OK)
				sameViews(t, "P17.3: "+c.what, k.s, e)
				n := len(ops) + 1
				want := map[int]string{seg: head(seg, n) + picture(n, imageOf(t, e.State()))}
				if got := view(k.d); len(got) != 1 || got[seg] != want[seg] {
					t.Fatalf("P17.3: %s, %s: %x; want %x", c.what, way, got, want)
				}
			}
			k.is(k.open(), api.OK)
			sameViews(t, "P17.3: "+c.what, k.s, e)
		}
	}
	// Of nothing: an image of a new engine has fifteen bytes.
	k := on(t, "P17.3", empty(t, 64+24+17+15))
	k.is(k.compact(), api.OK)
	lies(t, "P17.3", k.d, map[int]string{1: head(1, 1) + picture(1, "I"+strings.Repeat("\x00", 9)+"\x01\x01\x00\x00\x00")})
	k.is(k.compact(), api.ErrDiskFull)
	k.refuses(api.ErrDiskFull, tick(0))
}

// P17.3: where the disk has room for all but one byte of it nothing has changed, and the store goes on.
func TestCompactFull(t *testing.T) {
	for _, c := range courses() {
		for _, way := range ways {
			need := 64 + 24 + 17 + len(imageOf(t, toldEngine(t, c.lead...).State()))
			for less := range 3 {
				k := led(t, "P17.3", way, c, 40000)
				fill(t, k, need-less)
				if less == 0 {
					k.is(k.compact(), api.OK)
					continue
				}
				for range 2 {
					k.leaves(func() { k.is(k.compact(), api.ErrDiskFull) })
				}
				k.refuses(api.ErrEngineEmpty, poll(9))
				k.is(k.open(), api.OK)
				sameViews(t, "P17.3: "+c.what, k.s, toldEngine(t, c.lead...))
			}
		}
	}
}

// P17.3, P17.9: the power goes in each call of Compact on the disk: Create, Append, Sync, and Remove of each segment; whatever is left, it is the same engine.
func TestCompactLoses(t *testing.T) {
	t.Parallel()
	for i, c := range courses() {
		e := toldEngine(t, c.lead...)
		for _, way := range ways {
			for call := 0; ; call++ {
				k := led(t, "P17.3", way, c, big)
				k.arm(call)
				if k.compact() == api.OK {
					if list, _ := led(t, "P17.3", way, c, big).d.List(); call != 3+len(list) {
						t.Errorf("P17.3: %s, %s: %d calls", c.what, way, call)
					}
					break
				}
				sameViews(t, "P17.3: "+c.what, k.s, e)
				at := k.d.Copy()
				if i%5 == 0 {
					dead(t, k)
				} else {
					k.is(k.compact(), api.ErrDurableDead)
					k.refuses(api.ErrDurableDead, c.op, api.Op{}, tick(0))
				}
				outlives(t, "P17.3: "+c.what+", "+way, at, e)
			}
		}
	}
}

// P17.3, P17.2: a store whose disk is off finds out when it asks, and not ahead of that.
func TestOff(t *testing.T) {
	for _, c := range courses() {
		for _, way := range ways {
			k := led(t, "P17.3", way, c, big)
			spend(k.d)
			spend(k.twin)
			k.refuses(api.ErrEngineEmpty, poll(9))
			k.leaves(func() { k.is(k.compact(), api.ErrDiskDown) })
			k.refuses(api.ErrDurableDead, poll(9), c.op)
			k = led(t, "P17.2", way, c, big)
			spend(k.d)
			spend(k.twin)
			k.refuses(api.ErrDiskDown, c.op).refuses(api.ErrDurableDead, poll(9), c.op)
			k.leaves(func() { k.is(k.compact(), api.ErrDurableDead) })
		}
	}
}

// P17.4: the views are the engine's; they change nothing, and ask nothing of the disk, whether its power is on or off, armed or not, the store dead or not.
func TestViews(t *testing.T) {
	for _, c := range courses() {
		e := toldEngine(t, c.lead...)
		for _, way := range ways {
			k := led(t, "P17.4", way, c, big)
			look := func(what string) {
				t.Helper()
				k.leaves(func() {
					for range 2 {
						sameViews(t, "P17.4: "+what+", "+c.what, k.s, e)
					}
				})
			}
			look("on")
			k.arm(0)
			look("armed")
			if k.d.Down() {
				t.Fatal("P17.4: a view was a call on the disk")
			}
			k.is(k.do(c.op).Code, api.ErrDiskDown)
			look("dead")
			k.crash([]int{1000, 1000})
			look("dead, and the power is on")
		}
	}
	// Segments that were turned behind its back are not looked at.
	d := empty(t, big)
	s := opened(t, "P17.4", d)
	s.Do(submit(line(), "k"))
	for at := range 40 {
		d.Spoil(1, at, 255)
	}
	d.Remove(1)
	sameViews(t, "P17.4", s, toldEngine(t, submit(line(), "k")))
}

// P17.9: a dead store, by each call that can find out, is dead for good; another one on its disk lives.
func TestDead(t *testing.T) {
	for _, find := range []func(k *desk) api.Errno{
		func(k *desk) api.Errno { return k.do(tick(1)).Code },
		func(k *desk) api.Errno { return k.do(submit(line(), "l")).Code },
		func(k *desk) api.Errno { return k.compact() },
	} {
		for calls := range 2 {
			k := on(t, "P17.9", empty(t, big)).pass(submit(line(), "k"), poll(0))
			k.arm(calls)
			k.is(find(k), api.ErrDiskDown)
			dead(t, k)
			gone := k.s
			k.is(k.open(), api.OK)
			k.pass(tick(1), draw(1))
			if a := gone.Do(tick(1)); a.Code != api.ErrDurableDead || gone.Now() != 0 {
				t.Errorf("P17.9: %+v", a)
			}
		}
	}
}

// The chapter's examples, and those of the whole that speak of a store.
func TestExamples(t *testing.T) {
	if s, code := Open(nil); s != nil || code != api.ErrArg {
		t.Errorf("Open(nil): %d", code)
	}
	d := empty(t, 100000)
	k := on(t, "examples", d)
	a := k.do(submit(line(), "k"))
	if a.Run != 1 || a.Again || len(a.Notes) != 2 {
		t.Errorf("Submit: %+v", a)
	}
	if a := k.do(submit(line(), "k")); a.Run != 1 || !a.Again || len(a.Notes) != 0 {
		t.Errorf("Submit again: %+v", a)
	}
	one := head(1, 1) + picture(1, "") + record(1, bytesOf(t, submit(line(), "k"))[0])
	lies(t, "examples", d, map[int]string{1: one})
	k.refuses(api.ErrEngineEmpty, poll(1))
	if a := k.do(poll(0)); a.Task.Token != 1 {
		t.Errorf("Poll: %+v", a)
	}
	k.leaves(func() { k.pass(beat(1)) })
	k.pass(tick(0))
	lies(t, "examples", d, map[int]string{1: one + record(2, "\x02\x00\x07") + record(3, "\x09\x00")})
	k.is(k.compact(), api.OK)
	if list, _ := d.List(); !slices.Equal(list, []int{2}) {
		t.Errorf("List: %v", list)
	}
	leased := k.s.State()
	k.arm(0)
	k.loses(api.ErrDiskDown, complete(1, ""))
	k.refuses(api.ErrDurableDead, tick(1))
	k.is(k.compact(), api.ErrDurableDead)
	states(t, k.s, api.NodeLeased, api.NodeWaiting)
	k.crash(nil)
	k.is(k.open(), api.OK)
	if !sameState(k.s.State(), leased) {
		t.Errorf("State: %+v", k.s.State())
	}
	k.arm(1)
	k.loses(api.ErrDiskDown, complete(1, ""))
	k.crash([]int{1000})
	k.is(k.open(), api.OK)
	states(t, k.s, api.NodeDone, api.NodeReady)

	small := on(t, "examples", empty(t, 131))
	small.refuses(api.ErrDiskFull, submit(line(), "")).pass(draw(7))
	small.is(small.compact(), api.ErrDiskFull)

	other := on(t, "examples", empty(t, 150))
	other.refuses(api.ErrDiskFull, submit(line(), ""))
	other.is(other.compact(), api.OK)

	odd := empty(t, 100000)
	j, _ := journal.Open(odd)
	j.Append([]byte{99})
	if s, code := Open(odd); s != nil || code != api.ErrDurableRecord {
		t.Errorf("the record 99: %d", code)
	}
	j.Snapshot([]byte{1})
	if s, code := Open(odd); s != nil || code != api.ErrImageBytes {
		t.Errorf("the image 1: %d", code)
	}
}

// loses does an operation in which the power goes: the disk is another one then.
func (k *desk) loses(code api.Errno, o api.Op) {
	k.t.Helper()
	s := k.s.State()
	if a := k.do(o); !sameAnswer(a, api.Answer{Code: code}) || !sameState(s, k.s.State()) {
		k.t.Fatalf("%s: %v: %+v; want %d", k.promise, k.story, a, code)
	}
}

// states holds the states of run 1's nodes against these.
func states(t *testing.T, s *Store, want ...int) {
	t.Helper()
	r, code := s.Run(1)
	var got []int
	for _, n := range r.Nodes {
		got = append(got, n.State)
	}
	if code != api.OK || !slices.Equal(got, want) {
		t.Errorf("run 1 stands as %v, %d; want %v", got, code, want)
	}
}

// The whole's seventh example: the power goes in a poll; with one fate it was not, with another it was, though nobody was told.
func TestPollUnderWay(t *testing.T) {
	for fate, was := range map[int]bool{0: false, 10000: true} {
		d := empty(t, 100000)
		s := opened(t, "W2", d)
		s.Do(submit(line(), ""))
		d.Arm(0)
		if a := s.Do(poll(0)); !sameAnswer(a, api.Answer{Code: api.ErrDiskDown}) {
			t.Errorf("W2: %+v", a)
		}
		d.Crash([]int{fate})
		s = opened(t, "W2", d)
		a := s.Do(poll(0))
		if was && (a.Code != api.ErrEngineEmpty || s.Do(complete(1, "")).Code != api.OK) {
			t.Errorf("W2: fate %d: %+v", fate, a)
		}
		if !was && (a.Code != api.OK || a.Task.Token != 1) {
			t.Errorf("W2: fate %d: %+v", fate, a)
		}
	}
}
