package durable

import (
	"bytes"
	"cmp"
	"fmt"
	"slices"
	"strings"
	"sync"
	"testing"
	"unsafe"

	"escapement/api"
	"escapement/disk"
)

// P17.5: whose the memory is, and two stores on two disks.

// stretch is a piece of memory, spare room too.
type stretch struct {
	what string
	from uintptr
	size uintptr
}

func listAt[T any](what string, list []T) stretch {
	var one T
	return stretch{what, uintptr(unsafe.Pointer(unsafe.SliceData(list))), uintptr(cap(list)) * unsafe.Sizeof(one)}
}

func textAt(what, text string) stretch {
	return stretch{what, uintptr(unsafe.Pointer(unsafe.StringData(text))), uintptr(len(text))}
}

func planAt(what string, p api.Plan) []stretch {
	l := []stretch{textAt(what+" Plan.Name", p.Name), listAt(what+" Plan.Nodes", p.Nodes)}
	for _, n := range p.Nodes {
		l = append(l, textAt(what+" Name", n.Name), listAt(what+" Needs", n.Needs), listAt(what+" After", n.After))
	}
	return l
}

func opAt(o api.Op) []stretch {
	return append(planAt("an operation's", o.Plan), textAt("an operation's Key", o.Key), listAt("an operation's Result", o.Result))
}

func answerAt(a api.Answer) []stretch {
	l := []stretch{listAt("an answer's Notes", a.Notes), textAt("a task's Name", a.Task.Name), listAt("a task's Inputs", a.Task.Inputs)}
	for _, b := range a.Task.Inputs {
		l = append(l, listAt("an input", b))
	}
	return l
}

func runAt(r api.RunState) []stretch {
	l := append(planAt("a run's", r.Plan), textAt("a run's Key", r.Key), listAt("a run's Nodes", r.Nodes))
	for _, n := range r.Nodes {
		l = append(l, listAt("a node's Result", n.Result))
	}
	return l
}

func stateAt(s api.State) []stretch {
	l := []stretch{listAt("Runs", s.Runs), listAt("Ready", s.Ready), listAt("Timers", s.Timers)}
	for _, r := range s.Runs {
		l = append(l, runAt(r)...)
	}
	return l
}

// liesApart looks whether no two stretches meet. Texts of one byte are the language's own: it has each of them once.
func liesApart(t *testing.T, all []stretch) {
	t.Helper()
	all = slices.DeleteFunc(slices.Clone(all), func(x stretch) bool { return x.size <= 1 })
	slices.SortFunc(all, func(a, b stretch) int { return cmp.Compare(a.from, b.from) })
	for i := 1; i < len(all); i++ {
		if all[i-1].from+all[i-1].size > all[i].from {
			t.Fatalf("P17.5: %s and %s share memory", all[i-1].what, all[i].what)
		}
	}
}

// loose is a text whose bytes can be turned.
func loose(text string) (string, []byte) {
	b := []byte(text)
	return unsafe.String(unsafe.SliceData(b), len(b)), b
}

// roomy is a list with spare room, and something in it.
func roomy[T any](list ...T) []T { return append(list, list...)[:len(list)] }

// wordy is an operation that submits a plan with long texts and roomy lists; spoil turns all of its memory.
func wordy(key string) (o api.Op, spoil func()) {
	var texts [][]byte
	text := func(s string) string {
		one, b := loose(s)
		texts = append(texts, b)
		return one
	}
	a, b, c := nodeOf(text("node-a")), nodeOf(text("node-b")), nodeOf(text("node-c"))
	b.Needs, c.Needs, c.After = roomy(0), roomy(0), roomy(1)
	o = submit(api.Plan{Name: text("the-plan"), Deadline: 100, Nodes: roomy(a, b, c)}, text(key))
	return o, func() {
		for _, n := range o.Plan.Nodes {
			clear(n.Needs[:cap(n.Needs)])
			clear(n.After[:cap(n.After)])
		}
		clear(o.Plan.Nodes[:cap(o.Plan.Nodes)])
		for _, b := range texts {
			clear(b)
		}
	}
}

// wholly tells an operation with its lists' spare room.
func wholly(o api.Op) string {
	text := fmt.Sprintf("%+v %v", o, o.Result[:cap(o.Result)])
	for _, n := range o.Plan.Nodes[:cap(o.Plan.Nodes)] {
		text += fmt.Sprintf("%+v %v %v", n, n.Needs[:cap(n.Needs)], n.After[:cap(n.After)])
	}
	return text
}

// P17.5: what is handed in is neither changed nor kept, its spare room neither: not by the store, not by what stands on the disk; also where it is refused, or turns nothing.
func TestHandedIn(t *testing.T) {
	d := empty(t, big)
	k := on(t, "P17.5", d)
	do := func(o api.Op, code api.Errno, spoil func()) {
		t.Helper()
		ahead := wholly(o)
		a := k.do(o)
		if a.Code != code {
			t.Fatalf("P17.5: %d", a.Code)
		}
		if wholly(o) != ahead {
			t.Fatalf("P17.5: %s was changed: %s", ahead, wholly(o))
		}
		s, told, there := fmt.Sprintf("%+v", k.s.State()), fmt.Sprintf("%+v", a), whole(d)
		spoil()
		if got := fmt.Sprintf("%+v", k.s.State()); got != s || fmt.Sprintf("%+v", a) != told || whole(d) != there {
			t.Fatalf("P17.5: what was handed in is kept: %s; was %s", got, s)
		}
	}
	for _, x := range []struct {
		key  string
		code api.Errno
	}{{"some key", api.OK}, {"some key", api.OK}, {"another key", api.OK}, {strings.Repeat("k", 41), api.ErrCodecOp}} {
		o, spoil := wordy(x.key)
		do(o, x.code, spoil)
	}
	k.pass(poll(0))
	o := api.Op{Kind: api.OpComplete, Token: 1, Result: roomy([]byte("some result")...)}
	do(o, api.OK, func() { clear(o.Result[:cap(o.Result)]) })
	k.is(k.open(), api.OK)
	other, spoil := wordy("a third key")
	k.arm(1)
	do(other, api.ErrDiskDown, spoil)
	if r, _ := k.s.Run(1); r.Key != "some key" || r.Plan.Name != "the-plan" || r.Plan.Nodes[2].Name != "node-c" || string(r.Nodes[0].Result) != "some result" {
		t.Errorf("P17.5: %+v", r)
	}
}

// P17.5: what is answered is new memory, spare room too, and no two lists of it share any.
func TestAnswersAreNew(t *testing.T) {
	k := on(t, "P17.5", empty(t, big))
	var all []stretch
	do := func(o api.Op) api.Answer {
		t.Helper()
		a := k.s.Do(o)
		if a.Code != api.OK {
			t.Fatalf("P17.5: %s: %d", toldOp(o), a.Code)
		}
		all = append(all, slices.Concat(opAt(o), answerAt(a))...)
		return a
	}
	one, _ := wordy("some key")
	two, _ := wordy("another key")
	do(one)
	do(two)
	answers := []api.Answer{do(poll(0)), do(complete(1, "some result")), do(poll(0)), do(poll(0)), do(tick(1000))}
	if len(answers[3].Task.Inputs) != 1 || len(answers[4].Notes) < 3 {
		t.Fatalf("P17.5: %+v", answers)
	}
	s, again := k.s.State(), k.s.State()
	r, _ := k.s.Run(1)
	all = append(all, slices.Concat(stateAt(s), stateAt(again), runAt(r))...)
	liesApart(t, all)
	// What the caller does with it is not seen.
	want := fmt.Sprintf("%+v", s)
	for _, a := range answers {
		clear(a.Notes[:cap(a.Notes)])
		for _, b := range a.Task.Inputs {
			clear(b[:cap(b)])
		}
		clear(a.Task.Inputs[:cap(a.Task.Inputs)])
	}
	for _, x := range append(again.Runs, r) {
		for _, n := range x.Nodes {
			clear(n.Result[:cap(n.Result)])
		}
		clear(x.Nodes[:cap(x.Nodes)])
		for _, n := range x.Plan.Nodes {
			clear(n.Needs[:cap(n.Needs)])
			clear(n.After[:cap(n.After)])
		}
		clear(x.Plan.Nodes[:cap(x.Plan.Nodes)])
	}
	clear(again.Runs[:cap(again.Runs)])
	clear(again.Ready[:cap(again.Ready)])
	clear(again.Timers[:cap(again.Timers)])
	if got := fmt.Sprintf("%+v", k.s.State()); got != want {
		t.Errorf("P17.5: what was answered is the store's: %s; was %s", got, want)
	}
	if got := opened(t, "P17.5", k.d).State(); !sameState(got, s) {
		t.Errorf("P17.5: what was answered is the disk's: %+v; was %+v", got, s)
	}
}

// P17.5: nil and empty are one.
func TestNilAndEmpty(t *testing.T) {
	some := line()
	some.Nodes[0].Needs, some.Nodes[0].After, some.Nodes[1].After = []int{}, []int{}, []int{}
	one, two := on(t, "R4", empty(t, big)), on(t, "R4", empty(t, big))
	for i, o := range []api.Op{submit(line(), "k"), poll(0), {Kind: api.OpComplete, Token: 1}} {
		other := o
		other.Result = []byte{}
		if i == 0 {
			other.Plan = some
		}
		if other.Kind == api.OpPoll {
			other.Plan.Nodes = []api.Node{}
		}
		a, b := one.do(o), two.do(other)
		if !sameAnswer(a, b) || whole(one.d) != whole(two.d) || a.Code != api.OK {
			t.Errorf("R4: %s: %+v with nil, %+v with empty lists", toldOp(o), a, b)
		}
	}
	one.pass(submit(line(), "k"))
	two.pass(submit(some, "k"))
}

// P17.5: two stores on two disks, in turns: the one is not seen in the other.
func TestTurns(t *testing.T) {
	r := chance(1)
	for range 20 {
		desks := []*desk{on(t, "P17.5", empty(t, 3000)), on(t, "P17.5", empty(t, big)), on(t, "P17.5", empty(t, 600))}
		for range 60 {
			k := desks[r.Intn(3)]
			switch r.Intn(12) {
			case 0:
				k.compact()
			case 1:
				k.crash(anyFate(r))
				k.is(k.open(), api.OK)
			case 2:
				k.arm(r.Intn(6))
			default:
				k.do(anyOp(r, k.s.State()))
			}
			if k.d.Down() {
				k.crash(anyFate(r))
				k.is(k.open(), api.OK)
			}
			for _, other := range desks {
				other.alike()
			}
		}
	}
}

// R5: stores on disks of their own, side by side; and what they answer is the same each time.
func TestSideBySide(t *testing.T) {
	var all sync.WaitGroup
	texts := make([]string, 8)
	for i := range texts {
		all.Go(func() {
			var b bytes.Buffer
			r := chance(5)
			d, _ := disk.New(5000)
			s, _ := Open(d)
			for range 200 {
				fmt.Fprintf(&b, "%+v ", s.Do(anyOp(r, s.State())))
				if r.Intn(10) == 0 {
					fmt.Fprint(&b, int(s.Compact()))
				}
				if r.Intn(10) == 0 {
					s, _ = Open(d)
				}
			}
			texts[i] = b.String() + fmt.Sprintf("%+v", s.State()) + whole(d)
		})
	}
	all.Wait()
	for _, text := range texts {
		if text != texts[0] {
			t.Error("R5: the same operations were answered in two ways")
		}
	}
}
