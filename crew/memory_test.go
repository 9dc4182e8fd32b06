package crew

import (
	"cmp"
	"slices"
	"strings"
	"sync"
	"testing"
	"unsafe"

	"escapement/api"
)

// R4: whose the memory is.

// stretch is a piece of memory, spare room too.
type stretch struct {
	what string
	from uintptr
	size uintptr
}

func listAt[T any](what string, list []T) stretch {
	var one T
	return stretch{what, uintptr(unsafe.Pointer(unsafe.SliceData(list))), uintptr(cap(list)) * unsafe.Sizeof(one)}
}

func textAt(what, text string) stretch {
	return stretch{what, uintptr(unsafe.Pointer(unsafe.StringData(text))), uintptr(len(text))}
}

func listsAt(what string, lists [][]byte) []stretch {
	l := []stretch{listAt(what, lists)}
	for _, b := range lists {
		l = append(l, listAt("one of "+what, b))
	}
	return l
}

func planAt(p api.Plan) []stretch {
	l := []stretch{textAt("a plan's Name", p.Name), listAt("Nodes", p.Nodes)}
	for _, n := range p.Nodes {
		l = append(l, textAt("a node's Name", n.Name), listAt("Needs", n.Needs), listAt("After", n.After))
	}
	return l
}

func answersAt(list []api.Answer) []stretch {
	l := []stretch{listAt("answers", list)}
	for _, a := range list {
		l = append(l, listAt("Notes", a.Notes), textAt("a task's Name", a.Task.Name))
		l = append(l, listsAt("a task's Inputs", a.Task.Inputs)...)
	}
	return l
}

func runAt(r api.RunState) []stretch {
	l := append(planAt(r.Plan), listAt("a run's Nodes", r.Nodes))
	for _, n := range r.Nodes {
		l = append(l, listAt("a node's Result", n.Result))
	}
	return l
}

// liesApart looks whether no two stretches meet. Texts of one byte are the language's own: it has each of them once.
func liesApart(t *testing.T, all []stretch) {
	t.Helper()
	all = slices.DeleteFunc(slices.Clone(all), func(x stretch) bool { return x.size <= 1 })
	slices.SortFunc(all, func(a, b stretch) int { return cmp.Compare(a.from, b.from) })
	for i := 1; i < len(all); i++ {
		if all[i-1].from+all[i-1].size > all[i].from {
			t.Fatalf("R4: %s and %s share memory", all[i-1].what, all[i].what)
		}
	}
}

// roomy is a list with spare room, and something in it.
func roomy[T any](list ...T) []T { return append(list, list...)[:len(list)] }

// What is handed to Work is neither changed nor answered, spare room included; what it answers is new each time.
func TestWorkMemory(t *testing.T) {
	name := strings.Repeat("name", 3)
	spare := func() [][]byte {
		return roomy(roomy([]byte("abcd")...), roomy[byte](), roomy([]byte{1}...), make([]byte, 0, 9))
	}
	inputs, again := spare(), spare()
	one, two := Work(name, inputs), Work(name, inputs)
	all := slices.Concat([]stretch{textAt("the name", name), listAt("a result", one), listAt("another result", two)}, listsAt("inputs", inputs))
	liesApart(t, all)
	for i, b := range inputs[:cap(inputs)] {
		if string(b[:cap(b)]) != string(again[:cap(again)][i][:cap(again[:cap(again)][i])]) {
			t.Errorf("R4: Work has changed an input to %x", b[:cap(b)])
		}
	}
	for i := range one[:cap(one)] {
		one[:cap(one)][i]++
	}
	if want := modelWork(name, "abcd", "", "\x01", ""); string(two) != want || string(Work(name, inputs)) != want {
		t.Errorf("R4: results share memory: %x; want %x", two, want)
	}
	if cap(Work("a", nil)) < 4 || len(Work("", nil)) != 4 {
		t.Error("P19.1: a result has four bytes")
	}
}

// What is handed to Results is not changed; no two of its results share memory.
func TestResultsMemory(t *testing.T) {
	a, b, c := nodeOf("node-a"), nodeOf("node-b"), nodeOf("node-c")
	b.Needs, c.Needs, c.After = roomy(0), roomy(0), roomy(1)
	p := api.Plan{Name: "the-plan", Deadline: 100, Nodes: roomy(a, b, c)}
	ahead := told(p) + told(p.Nodes[:cap(p.Nodes)]) + told(p.Nodes[2].Needs[:2])
	one, _ := Results(p)
	two, _ := Results(p)
	if told(p)+told(p.Nodes[:cap(p.Nodes)])+told(p.Nodes[2].Needs[:2]) != ahead {
		t.Errorf("R4: the plan has become %+v", p)
	}
	liesApart(t, slices.Concat(planAt(p), listsAt("results", one), listsAt("other results", two)))
	for i, b := range one {
		clear(b[:cap(b)])
		if rest, want := one[i+1:], two[i+1:]; told(rest) != told(want) {
			t.Errorf("R4: results share memory: %x; want %x", rest, want)
		}
	}
	three, _ := Results(p)
	if told(three) != told(two) {
		t.Errorf("R5: %x; and then %x", two, three)
	}
}

// What Round answers is new memory, of which the store has none; what the caller does with it is not seen.
func TestRoundMemory(t *testing.T) {
	p := beating(of(nodeOf("node-a"), nodeOf("node-b", 0), nodeOf("node-c", 0), nodeOf("node-d", 0, 1, 2)))
	k := with(t, "R4", submit(p), submit(p))
	for _, seed := range []uint64{0, 0, 1} { // a; b and c; d, with a sign of life
		answers, _, _ := k.round(16, seed)
		if len(answers) < 2 {
			t.Fatalf("P19.3: %+v", answers)
		}
		all := slices.Concat(answersAt(answers), planAt(p))
		for run := 1; run <= 2; run++ {
			r, _ := k.s.Run(run)
			all = append(all, runAt(r)...)
		}
		liesApart(t, all)
		k.leaves(func() {
			for _, a := range answers {
				clear(a.Notes[:cap(a.Notes)])
				for _, b := range a.Task.Inputs {
					clear(b[:cap(b)])
				}
				clear(a.Task.Inputs[:cap(a.Task.Inputs)])
			}
			clear(answers[:cap(answers)])
		})
	}
}

// R5: calls side by side, of the same plans and inputs, and of stores of their own.
func TestSideBySide(t *testing.T) {
	p := anyPlan(chance(1), 30)
	inputs := bytesOf("one", "", strings.Repeat("r", 300))
	want, _ := Results(p)
	work := string(Work("n", inputs))
	var all sync.WaitGroup
	for i := range 12 {
		s := opened(t, empty(t, big))
		all.Go(func() {
			s.Do(submit(p))
			for range 31 {
				if got, code := Results(p); told(got) != told(want) || code != api.OK {
					t.Errorf("R5: %x, %d; want %x", got, code, want)
				}
				if got := string(Work("n", inputs)); got != work {
					t.Errorf("R5: %x; want %x", got, work)
				}
				if _, code := Round(s, 1+i, 0); code != api.OK {
					t.Errorf("P19.3: %d", code)
				}
			}
			if r, _ := s.Run(1); r.Status != api.RunSucceeded {
				t.Errorf("P19.4: %+v", r)
			}
		})
	}
	all.Wait()
}
