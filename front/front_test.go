package front

import (
	"fmt"
	"math"
	"strings"
	"testing"

	"escapement/api"
	"escapement/cadence"
	"escapement/disk"
	"escapement/durable"
	"escapement/journal"
)

// The promises P20.3 and P20.4.

// refusesDisk holds that New answers a code, as durable.Open does, and leaves on the disk what that leaves.
func refusesDisk(t *testing.T, what string, d *disk.Disk, want api.Errno) {
	t.Helper()
	other := d.Copy()
	if _, code := durable.Open(other); code != want {
		t.Fatalf("%s: durable.Open answers %d", what, code)
	}
	if f, code := New(d); f != nil || code != want {
		t.Errorf("P20.3: %s: %v, %d; want %d", what, f, code, want)
	}
	if whole(d) != whole(other) {
		t.Errorf("P20.3: %s: the disk has %s; want %s", what, whole(d), whole(other))
	}
}

// journaled is a disk with an image, or none, and records.
func journaled(t *testing.T, image string, records ...string) *disk.Disk {
	t.Helper()
	d := blank(t, big)
	j, code := journal.Open(d)
	if code == api.OK && image != "" {
		code = j.Snapshot([]byte(image))
	}
	for _, record := range records {
		if code == api.OK {
			code = j.Append([]byte(record))
		}
	}
	if code != api.OK || j.Sync() != api.OK {
		t.Fatal(code)
	}
	return d
}

func TestNewRefused(t *testing.T) {
	if f, code := New(nil); f != nil || code != api.ErrArg {
		t.Errorf("P20.3: New(nil): %v, %d", f, code)
	}
	off := blank(t, big)
	off.Arm(0)
	off.Sync()
	refusesDisk(t, "the power is off", off, api.ErrDiskDown)
	off = blank(t, big)
	off.Arm(0)
	refusesDisk(t, "the power goes in Sync", off, api.ErrDiskDown)
	// Segment 1 is taken away by a Compact, and brought back by a Crash.
	twice := blank(t, big)
	replies(t, made(t, twice), submit(line(), "k"), compact())
	twice.Crash([]int{1})
	if list, _ := twice.List(); len(list) != 2 {
		t.Fatal(list)
	}
	twice.Arm(1)
	refusesDisk(t, "the power goes in Remove", twice, api.ErrDiskDown)
	refusesDisk(t, "an image that is none", journaled(t, "\x01"), api.ErrImageBytes)
	refusesDisk(t, "an image that is none, ahead of a record", journaled(t, "I", "\x63"), api.ErrImageBytes)
	refusesDisk(t, "a record that is none", journaled(t, "", "\x63"), api.ErrDurableRecord)
	refusesDisk(t, "a record without bytes", journaled(t, "", "\x09\x05", ""), api.ErrDurableRecord)
	refusesDisk(t, "a record that the engine refuses", journaled(t, "", "\x09\x05", "\x04\x01\x00"), api.ErrDurableRecord)
	refusesDisk(t, "a request in a record", journaled(t, "", "\x01\x09\x05"), api.ErrDurableRecord)
}

// A disk that was used before, by a front, or by a store of chapter 17, has its runs; schedules there are none.
func TestNewUsed(t *testing.T) {
	k := on(t, "P20.3", blank(t, big))
	k.pass(minutely("often"), tick(130), submit(line(), "k"), poll(0), fire(), complete(1, "r"), compact(), round(2, 0))
	want := runs(t, k.f, 4)
	for range 3 {
		k.open()
		if got := runs(t, k.f, 4); got != want {
			t.Fatalf("P20.3: %s; want %s", got, want)
		}
		k.is(drop("often"), api.ErrCadenceNone)
		if r := k.is(fire(), api.OK); len(r.Fired) != 0 {
			t.Errorf("P20.3: %+v", r)
		}
		k.pass(minutely("often"))
		if r := k.is(fire(), api.OK); len(r.Fired) != 1 || !r.Fired[0].Answer.Again || r.Fired[0].Answer.Run != 2 {
			t.Errorf("P20.3: %+v", r)
		}
	}
	d := blank(t, big)
	s, _ := durable.Open(d)
	s.Do(submit(line(), "k").Op)
	s.Do(poll(0).Op)
	on(t, "P20.3", d).pass(runOf(1), complete(1, ""))
	if r := made(t, d).Do([]byte{3, 1}); r.Run.Key != "k" || r.Run.Nodes[0].State != api.NodeDone {
		t.Errorf("P20.3: %+v", r)
	}
	// An empty disk stays so.
	d = blank(t, 0)
	made(t, d)
	if got, want := whole(d), whole(blank(t, 0)); got != want {
		t.Errorf("P20.3: %s; want %s", got, want)
	}
}

// The chapter's examples.
func TestExamples(t *testing.T) {
	k := on(t, "P20.4", blank(t, big))
	for _, x := range []struct {
		bytes string
		want  api.Reply
	}{
		{"\x03\x01", api.Reply{Code: api.ErrEngineRun}},
		{"\x03\x00", api.Reply{Code: api.ErrFrontAsk}},
		{"\x03", api.Reply{Code: api.ErrFrontAsk}},
		{"\x08", api.Reply{Code: api.ErrFrontAsk}},
		{"\x02\x00", api.Reply{Code: api.ErrFrontAsk}},
		{"", api.Reply{Code: api.ErrFrontAsk}},
		{"\x07\x00\x00\x00\x00\x00\x00\x00\x00\x00", api.Reply{Code: api.ErrCrewSize}},
		{"\x05\x01a", api.Reply{Code: api.ErrCadenceNone}},
		{"\x01\x09\x05", api.Reply{}},
		{"\x01\x08\x01\x00\x00\x00\x00\x00\x00\x00", api.Reply{}},
		{"\x01\x02\x00\x00", api.Reply{Code: api.ErrEngineEmpty, Answer: api.Answer{Code: api.ErrEngineEmpty}}},
		{"\x02", api.Reply{}},
		{"\x06", api.Reply{}},
	} {
		if got := k.f.Do([]byte(x.bytes)); told(got) != told(x.want) {
			t.Errorf("P20.4: Do(%x): %+v; want %+v", x.bytes, got, x.want)
		}
	}
	s, _ := durable.Open(k.d)
	if s.Now() != 5 || s.State().Luck == 0 {
		t.Errorf("P20.4: the clock is %d", s.Now())
	}
}

// step is a request, and the whole reply.
type step struct {
	a    api.Ask
	want api.Reply
}

func (k *desk) steps(list []step) {
	k.t.Helper()
	for i, x := range list {
		if got := k.do(x.a); told(got) != told(x.want) {
			k.fatal("P20.4: step %d: %+v; want %+v", i, got, x.want)
		}
	}
}

func refused(code api.Errno) api.Reply {
	return api.Reply{Code: code, Answer: api.Answer{Code: code}}
}

func noted(notes ...api.Note) api.Reply { return api.Reply{Answer: api.Answer{Notes: notes}} }

// AskOp, of each kind of operation.
func TestDoOp(t *testing.T) {
	p := line()
	p.Nodes[0].Beat = 6
	k := on(t, "P20.4", blank(t, big))
	k.steps([]step{
		{submit(p, "k"), api.Reply{Answer: api.Answer{Run: 1, Notes: []api.Note{{Kind: api.NoteSubmitted, Run: 1, Due: 100}, {Kind: api.NoteReady, Run: 1}}}}},
		{submit(p, "k"), api.Reply{Answer: api.Answer{Run: 1, Again: true}}},
		{submit(line(), "k"), refused(api.ErrEngineKey)},
		{poll(1), refused(api.ErrEngineEmpty)},
		{poll(0), api.Reply{Answer: api.Answer{Task: api.Task{Token: 1, Run: 1, Name: "a", Attempt: 1, Until: 10, BeatBy: 6}, Notes: []api.Note{{Kind: api.NoteLeased, Run: 1, Attempt: 1, Token: 1, Due: 10}}}}},
		{tick(2), noted()},
		{beat(1), noted(api.Note{Kind: api.NoteBeaten, Time: 2, Run: 1, Attempt: 1, Token: 1, Due: 8})},
		{beat(2), refused(api.ErrEngineToken)},
		{complete(1, "xyz"), noted(api.Note{Kind: api.NoteDone, Time: 2, Run: 1, Attempt: 1}, api.Note{Kind: api.NoteReady, Time: 2, Run: 1, Node: 1})},
		{complete(1, "xyz"), refused(api.ErrEngineToken)},
		{poll(0), api.Reply{Answer: api.Answer{Task: api.Task{Token: 2, Run: 1, Node: 1, Name: "b", Attempt: 1, Until: 12, Inputs: [][]byte{[]byte("xyz")}}, Notes: []api.Note{{Kind: api.NoteLeased, Time: 2, Run: 1, Node: 1, Attempt: 1, Token: 2, Due: 12}}}}},
		{fail(2), noted(api.Note{Kind: api.NoteFailed, Time: 2, Run: 1, Node: 1, Attempt: 1, Why: api.WhyTold}, api.Note{Kind: api.NoteBackoff, Time: 2, Run: 1, Node: 1, Attempt: 1, Due: 6})},
		{fail(2), refused(api.ErrEngineToken)},
		{forget(1), refused(api.ErrEngineEnded)},
		{draw(7), noted()},
		{tick(4), noted(api.Note{Kind: api.NoteReady, Time: 6, Run: 1, Node: 1})},
		{cancel(1), noted(api.Note{Kind: api.NoteDead, Time: 6, Run: 1, Node: 1, Attempt: 1, Why: api.WhyCancelled}, api.Note{Kind: api.NoteEnded, Time: 6, Run: 1, Why: api.RunCancelled})},
		{cancel(1), refused(api.ErrEngineEnded)},
		{forget(1), noted(api.Note{Kind: api.NoteForgotten, Time: 6, Run: 1})},
		{cancel(1), refused(api.ErrEngineRun)},
		{tick(late), noted()},
		{submit(line(), ""), refused(api.ErrEngineTime)},
	})
}

// AskRun: the run alone, or the code alone.
func TestDoRun(t *testing.T) {
	p := line()
	ready := []api.NodeState{{State: api.NodeReady}, {State: api.NodeWaiting}}
	k := on(t, "P20.4", blank(t, big)).pass(tick(3), submit(p, "k"), submit(p, ""))
	k.steps([]step{
		{runOf(1), api.Reply{Run: api.RunState{ID: 1, Key: "k", Plan: p, Status: api.RunLive, Submitted: 3, Nodes: ready}}},
		{runOf(2), api.Reply{Run: api.RunState{ID: 2, Plan: p, Status: api.RunLive, Submitted: 3, Nodes: ready}}},
		{runOf(3), api.Reply{Code: api.ErrEngineRun}},
		{runOf(count), api.Reply{Code: api.ErrEngineRun}},
	})
	k.pass(poll(0), complete(1, "res"), poll(0), tick(1), cancel(2))
	k.steps([]step{
		{runOf(1), api.Reply{Run: api.RunState{ID: 1, Key: "k", Plan: p, Status: api.RunLive, Submitted: 3, Nodes: []api.NodeState{{State: api.NodeDone, Attempts: 1, Result: []byte("res")}, {State: api.NodeReady}}}}},
		{runOf(2), api.Reply{Run: api.RunState{ID: 2, Plan: p, Status: api.RunCancelled, Submitted: 3, Ended: 4, Nodes: []api.NodeState{{State: api.NodeDead, Attempts: 1}, {State: api.NodeSkipped}}}}},
		{forget(2), noted(api.Note{Kind: api.NoteForgotten, Time: 4, Run: 2})},
		{runOf(2), api.Reply{Code: api.ErrEngineRun}},
	})
}

// AskCompact: an image in the place of the records; the disk without room or power.
func TestDoCompact(t *testing.T) {
	k := on(t, "P20.4", blank(t, big)).pass(submit(line(), "k"), poll(0))
	k.steps([]step{{compact(), api.Reply{}}, {compact(), api.Reply{}}})
	if list, _ := k.d.List(); fmt.Sprint(list) != "[3]" {
		t.Errorf("P20.4: on the disk are %v", list)
	}
	k.arm(0)
	k.steps([]step{{compact(), api.Reply{Code: api.ErrDiskDown}}, {compact(), api.Reply{Code: api.ErrDurableDead}}})
	// Chapter 17's disk of 131 bytes.
	on(t, "P20.4", blank(t, 131)).steps([]step{
		{submit(line(), ""), refused(api.ErrDiskFull)},
		{draw(7), api.Reply{}},
		{compact(), api.Reply{Code: api.ErrDiskFull}},
		{runOf(1), api.Reply{Code: api.ErrEngineRun}},
	})
}

// AskAdd and AskDrop: each code of chapter 18 that bytes can lead to, and nothing beside it.
func TestDoSchedules(t *testing.T) {
	k := on(t, "P20.4", blank(t, big))
	k.steps([]step{
		{minutely("a"), api.Reply{}},
		{minutely("a"), api.Reply{Code: api.ErrCadenceName}},
		{minutely(""), api.Reply{Code: api.ErrCadenceName}},
		{minutely("A"), api.Reply{Code: api.ErrCadenceName}},
		{minutely("\xff"), api.Reply{Code: api.ErrCadenceName}},
		{add("b", "* * * *", line(), 0), api.Reply{Code: api.ErrCronWords}},
		{add("b", "", line(), 0), api.Reply{Code: api.ErrCronWords}},
		{add("b", "60 * * * *", line(), 0), api.Reply{Code: api.ErrCronItem}},
		{add("b", "* * * * *"+strings.Repeat(" ", 1015), line(), late), api.Reply{}},
		{drop("b"), api.Reply{}},
		{drop("b"), api.Reply{Code: api.ErrCadenceNone}},
		{drop(""), api.Reply{Code: api.ErrCadenceNone}},
		{drop("\x00"), api.Reply{Code: api.ErrCadenceNone}},
	})
	for i := range 63 {
		k.pass(minutely(fmt.Sprint("s", i)))
	}
	k.steps([]step{
		{minutely("b"), api.Reply{Code: api.ErrCadenceFull}},
		{drop("s7"), api.Reply{}},
		{minutely("b"), api.Reply{}},
	})
	// Nothing of this is laid.
	if got, want := whole(k.d), whole(blank(t, big)); got != want {
		t.Errorf("P20.4: the disk has %s", got)
	}
}

// AskFire: what came of each schedule, by rising names; refusals stand there too.
func TestDoFire(t *testing.T) {
	k := on(t, "P20.4", blank(t, big))
	other := line()
	other.Deadline = 7
	notes := func(run, due int) []api.Note {
		return []api.Note{{Kind: api.NoteSubmitted, Time: 130, Run: run, Due: due}, {Kind: api.NoteReady, Time: 130, Run: run}}
	}
	k.pass(minutely("noon"), add("dusk", "*/2 * * * *", other, 0), add("later", "* * * * *", line(), 121), minutely("taken"), tick(130), submit(other, "taken@120"))
	want := []api.Fired{
		{Name: "dusk", Time: 120, Answer: api.Answer{Run: 2, Notes: notes(2, 137)}},
		{Name: "noon", Time: 120, Answer: api.Answer{Run: 3, Notes: notes(3, 230)}},
		{Name: "taken", Time: 120, Answer: api.Answer{Code: api.ErrEngineKey}},
	}
	k.steps([]step{
		{fire(), api.Reply{Fired: want}},
		{fire(), api.Reply{Fired: want[2:]}},
		{drop("noon"), api.Reply{}},
		{minutely("noon"), api.Reply{}},
		{fire(), api.Reply{Fired: []api.Fired{{Name: "noon", Time: 120, Answer: api.Answer{Run: 3, Again: true}}, want[2]}}},
		{drop("taken"), api.Reply{}},
		{fire(), api.Reply{}},
	})
	if r := k.do(runOf(3)); r.Run.Key != "noon@120" {
		t.Errorf("P20.4: %+v", r)
	}
	k.pass(tick(60))
	k.arm(1)
	dead := func(code api.Errno, names ...string) (list []api.Fired) {
		for _, name := range names {
			list = append(list, api.Fired{Name: name, Time: 180, Answer: api.Answer{Code: code}})
		}
		return list
	}
	k.steps([]step{
		{fire(), api.Reply{Fired: append(dead(api.ErrDiskDown, "later"), dead(api.ErrDurableDead, "noon")...)}},
		{fire(), api.Reply{Fired: dead(api.ErrDurableDead, "later", "noon")}},
	})
}

// AskCrew: all answers in order, or the code alone.
func TestDoCrew(t *testing.T) {
	k := on(t, "P20.4", blank(t, big))
	for _, workers := range []int{0, 17, 18, 1<<32 + 1, count} {
		k.steps([]step{{round(workers, 0), api.Reply{Code: api.ErrCrewSize}}, {round(workers, math.MaxUint64), api.Reply{Code: api.ErrCrewSize}}})
	}
	k.steps([]step{{round(16, 0), api.Reply{}}, {round(1, 5), api.Reply{}}})
	k.pass(submit(line(), ""))
	result := "\xc1\xd0\x43\x30" // chapter 19's Work of a
	task := api.Task{Token: 1, Run: 1, Name: "a", Attempt: 1, Until: 10}
	k.steps([]step{
		{round(3, 0), api.Reply{Answers: []api.Answer{
			{Task: task, Notes: []api.Note{{Kind: api.NoteLeased, Run: 1, Attempt: 1, Token: 1, Due: 10}}},
			{Notes: []api.Note{{Kind: api.NoteDone, Run: 1, Attempt: 1}, {Kind: api.NoteReady, Run: 1, Node: 1}}}}}},
	})
	if r := k.do(runOf(1)); string(r.Run.Nodes[0].Result) != result {
		t.Errorf("P20.4: %+v", r)
	}
	k.pass(submit(plain(20), ""))
	for seed := range 40 {
		k.do(round(1+seed%16, uint64(seed)*0x123456789abcdef))
		k.do(tick(9))
	}
	k.pass(submit(plain(20), ""))
	k.arm(3)
	k.steps([]step{
		{round(4, 0), api.Reply{Code: api.ErrDiskDown}},
		{round(4, 0), api.Reply{Code: api.ErrDurableDead}},
		{round(0, 0), api.Reply{Code: api.ErrCrewSize}},
	})
	// A disk with room for a poll, and not for what is told.
	for capacity := 150; capacity < 420; capacity++ {
		k := on(t, "P20.4", blank(t, capacity))
		k.do(submit(plain(3), ""))
		for range 3 {
			k.do(round(2, 0))
		}
	}
}

// A dead front tells how it stood, keeps its schedules, and answers all that asks the disk so.
func TestDoDead(t *testing.T) {
	k := on(t, "P20.4", blank(t, big)).pass(minutely("often"), submit(line(), "k"), tick(60))
	k.arm(0)
	k.steps([]step{
		{poll(0), refused(api.ErrDiskDown)},
		{poll(0), refused(api.ErrDurableDead)},
		{submit(line(), "k"), refused(api.ErrDurableDead)},
		{tick(1), refused(api.ErrDurableDead)},
		{compact(), api.Reply{Code: api.ErrDurableDead}},
		{runOf(2), api.Reply{Code: api.ErrEngineRun}},
		{minutely("often"), api.Reply{Code: api.ErrCadenceName}},
		{minutely("also"), api.Reply{}},
		{drop("also"), api.Reply{}},
		{fire(), api.Reply{Fired: []api.Fired{{Name: "often", Time: 60, Answer: api.Answer{Code: api.ErrDurableDead}}}}},
		{round(1, 0), api.Reply{Code: api.ErrDurableDead}},
	})
	if r := k.is(runOf(1), api.OK); r.Run.Nodes[0].State != api.NodeReady {
		t.Errorf("P20.4: %+v", r)
	}
	if got := k.f.Do([]byte{8}); told(got) != told(api.Reply{Code: api.ErrFrontAsk}) {
		t.Errorf("P20.4: %+v", got)
	}
}

// noRequests are bytes that Read refuses, many of them near to some that it takes.
func noRequests(t *testing.T) (all [][]byte) {
	t.Helper()
	r := chance(4)
	all = [][]byte{nil, {0}, {8}, {255}, {0x82, 0}, make([]byte, 70000)}
	for _, b := range rows(t) {
		all = append(all, b[:len(b)-1], append(b[:len(b):len(b)], 0), append(b[:len(b):len(b)], b...))
		c := append([]byte(nil), b...)
		c[r.Intn(len(c))] ^= byte(1 + r.Intn(255))
		all = append(all, c)
	}
	var none [][]byte
	for _, b := range all {
		if _, ok := modelRead(b); !ok {
			none = append(none, b)
		}
	}
	return none
}

// P20.4: what is no request is answered by the code alone, and changes nothing: neither the runs, nor the schedules, nor the disk, armed or not.
func TestDoNoRequest(t *testing.T) {
	none := noRequests(t)
	if len(none) < 100 {
		t.Fatalf("only %d", len(none))
	}
	k := on(t, "P20.4", blank(t, big)).pass(minutely("often"), submit(line(), "k"), tick(60), poll(0))
	refuse := func() {
		t.Helper()
		for _, b := range none {
			if got := k.f.Do(b); told(got) != told(api.Reply{Code: api.ErrFrontAsk}) {
				t.Fatalf("P20.4: Do(%x): %+v", b, got)
			}
		}
		k.alike()
	}
	refuse()
	k.pass(round(3, 0), fire(), compact())
	k.arm(2)
	refuse()
	k.pass(tick(1))
	refuse()
	k.is(complete(1, ""), api.ErrDiskDown)
	refuse()
	k.crash()
	refuse()
	k.open()
	refuse()
	k.is(drop("often"), api.ErrCadenceNone)
}

// Two requests of one kind, one behind the other, do not see each other; and each kind has a reply of its own fields only.
func TestDoFields(t *testing.T) {
	k := on(t, "P20.4", blank(t, big)).pass(minutely("often"), submit(plain(6), "k"), tick(120))
	for range 3 {
		for _, a := range []api.Ask{tick(60), runOf(1), fire(), round(2, 0), poll(0), compact(), drop("no"), add("no", "", line(), 0)} {
			r := k.do(a)
			for what, there := range map[string]bool{
				"Answer":  told(r.Answer) != told(api.Answer{}),
				"Run":     told(r.Run) != told(api.RunState{}),
				"Fired":   len(r.Fired) > 0,
				"Answers": len(r.Answers) > 0,
			} {
				if owner := map[string]int{"Answer": 1, "Run": 3, "Fired": 6, "Answers": 7}[what]; there && a.Kind != owner {
					t.Errorf("P20.4: the reply to %s has %s: %+v", brief(a), what, r)
				}
			}
		}
	}
}

// The cadence is a front's own: what another book has is not seen there, but for the runs' keys.
func TestOwnCadence(t *testing.T) {
	d := blank(t, big)
	f := made(t, d)
	replies(t, f, tick(130), minutely("often"), fire())
	s, _ := durable.Open(d)
	b := cadence.New()
	b.Add(minutely("often").Schedule)
	if list, code := b.Fire(s); code != api.OK || len(list) != 1 || !list[0].Answer.Again {
		t.Errorf("P20.4: %+v, %d", list, code)
	}
}
