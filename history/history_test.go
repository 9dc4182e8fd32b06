package history

import (
	"fmt"
	"math"
	"slices"
	"strings"
	"testing"

	"escapement/api"
)

// The promises P16.1 to P16.3, one by one; the chapter's examples.

// row is a note that is handed to a book behind others.
type row struct {
	ahead string
	next  string
	taken bool
}

// goThrough holds each row against a book of this plan.
func goThrough(t *testing.T, promise string, p api.Plan, rows []row) {
	t.Helper()
	for _, x := range rows {
		want := api.ErrHistoryNote
		if x.taken {
			want = api.OK
		}
		d := at(t, promise, p, x.ahead)
		if got := d.add(noteOf(x.next)); got != want {
			t.Errorf("%s: %s: then %s: %d; want %d", promise, x.ahead, x.next, got, want)
		}
	}
}

const (
	begun  = "Submitted 0 Due 100; Ready 0 Node 0"
	handed = begun + "; Leased 3 Node 0 Attempt 1 Token 5 Due 13"
	closed = handed + "; Failed 13 Node 0 Attempt 1 WhyClosed"
	backed = closed + "; Backoff 13 Node 0 Attempt 1 Due 17"
	woken  = backed + "; Ready 17 Node 0"
	both   = begun + "; Ready 0 Node 1" // of the plan pair
)

func TestExamples(t *testing.T) {
	goThrough(t, "P16.2", line(), []row{
		{"", "Submitted 0 Due 100", true},
		{"", "Submitted 0 Due 99", false},
		{"", "Ready 0 Node 0", false},
		{"Submitted 0 Due 100", "Ready 0 Node 0", true},
		{"Submitted 0 Due 100", "Ready 1 Node 0", false},
		{"Submitted 0 Due 100", "Leased 0 Node 0 Attempt 1 Token 5 Due 10", false},
		{begun, "Leased 3 Node 0 Attempt 1 Token 5 Due 13", true},
		{begun, "Leased 3 Node 0 Attempt 1 Token 5 Due 12", false},
		{begun, "Leased 3 Node 0 Attempt 1 Token 0 Due 13", false},
		{handed, "Failed 13 Node 0 Attempt 1 WhyClosed", true},
		{handed, "Failed 12 Node 0 Attempt 1 WhyClosed", false},
		{handed, "Done 13 Node 0 Attempt 1", false},
		{handed, "Done 12 Node 0 Attempt 1", true},
		{closed, "Backoff 13 Node 0 Attempt 1 Due 17", true},
		{closed, "Backoff 13 Node 0 Attempt 1 Due 18", false},
		{backed, "Ready 16 Node 0", false},
		{backed, "Ready 17 Node 0", true},
		{backed, "Ended 17 RunFailed", false},
		{handed + "; Done 12 Node 0 Attempt 1", "Ready 12 Node 1", true},
		{begun, "Dead 5 Node 0 WhyCancelled", true},
		{begun, "Dead 100 Node 0 WhyDeadline", true},
		{begun, "Dead 99 Node 0 WhyDeadline", false},
		{begun, "Leased 100 Node 0 Attempt 1 Token 1 Due 100", false},
	})
	if s := at(t, "P16.3", line(), closed).b.Run(); s.Nodes[0].State != api.NodeBackoff || s.Nodes[0].Attempts != 1 {
		t.Errorf("P16.3: behind Failed 13: %+v", s)
	}
	d := at(t, "P16.2", line(), begun+"; Dead 5 Node 0 WhyCancelled; Skipped 5 Node 1; Ended 5 RunCancelled; Forgotten 7")
	if code := d.add(noteOf("Forgotten 8")); code != api.ErrHistoryRest {
		t.Errorf("P16.2: behind the end: %d", code)
	}
	runs, lists := Split([]api.Note{{Run: 7, Time: 1}, {Run: 2, Time: 2}, {Run: 7, Time: 3}})
	if told(runs) != "[2 7]" || len(lists) != 2 || len(lists[0]) != 1 || len(lists[1]) != 2 {
		t.Errorf("P16.4: %v, %v", runs, lists)
	}
	if v, code := Audit(nil, 0); code != api.ErrArg || len(v) > 0 {
		t.Errorf("P16.5: %v, %d", v, code)
	}
	if v, code := Audit(nil, 16); code != api.OK || len(v) > 0 {
		t.Errorf("P16.5: %v, %d", v, code)
	}
	if v, code := Audit([]api.Story{{Plan: line()}}, 1); code != api.OK || len(v) != 1 || v[0] != (api.Verdict{Code: api.ErrArg}) {
		t.Errorf("P16.5: %v, %d", v, code)
	}
}

// refusedPlans are plans that may not be: one for each of plan.Check's errors.
func refusedPlans() []api.Plan {
	cycle := of(nodeOf("a", 1), nodeOf("b", 0))
	edge := of(nodeOf("a"), nodeOf("b", 2))
	field := with(line(), func(n *api.Node) { n.Close = 0 })
	name := of(nodeOf("a"), nodeOf("a"))
	title := line()
	title.Name = "P"
	many := of()
	for i := range 65 {
		many.Nodes = append(many.Nodes, nodeOf(fmt.Sprint("n", i)))
	}
	return []api.Plan{{}, title, until(line(), 0), until(line(), 1<<40+1), of(), many, name, field, edge, cycle}
}

// P16.1: the number is looked at first, then the plan; beside an error there is no book.
func TestNew(t *testing.T) {
	for _, id := range []int{math.MinInt, -1, 0, 1, 2, 1<<40 - 1, 1 << 40, 1<<40 + 1, math.MaxInt} {
		for i, p := range append(refusedPlans(), line(), tree(), until(line(), 1<<40)) {
			want := api.OK
			if i < len(refusedPlans()) {
				want = api.ErrHistoryPlan
			}
			if id < 1 || id > 1<<40 {
				want = api.ErrArg
			}
			b, code := New(id, p)
			if code != want || (b != nil) != (want == api.OK) {
				t.Errorf("P16.1: New(%d, %+v): %v, %d; want %d", id, p, b != nil, code, want)
			}
			if b == nil {
				continue
			}
			if s := b.Run(); told(s) != told(api.RunState{ID: id, Plan: p}) || b.Ended() {
				t.Errorf("P16.1, P16.3: a new book of %d: %+v, %v", id, s, b.Ended())
			}
		}
	}
}

// P16.2: of the first note each edge of Time, with the Due that it must have and with others; its Run.
func TestFirst(t *testing.T) {
	for _, deadline := range []int{1, 100, 1 << 40} {
		p := until(line(), deadline)
		last := 1<<62 - deadline
		for _, time := range []int{math.MinInt, -1 << 62, -deadline, -1, 0, 1, 7, last - 1, last, last + 1, 1 << 62, math.MaxInt - deadline, math.MaxInt} {
			for _, off := range []int{0, -1, 1, -deadline} {
				d := begin(t, "P16.2", 1<<40, p)
				taken := time >= 0 && time <= last && off == 0
				if got := d.add(api.Note{Kind: api.NoteSubmitted, Time: time, Run: 1 << 40, Due: time + deadline + off}); (got == api.OK) != taken {
					t.Errorf("P16.2: deadline %d: Submitted %d Due %d: %d", deadline, time, time+deadline+off, got)
				}
			}
		}
	}
	d := begin(t, "P16.2", 7, line())
	for kind := -1; kind < 14; kind++ {
		if kind != api.NoteSubmitted {
			d.refuses(api.Note{Kind: kind, Run: 7}, api.Note{Kind: kind, Run: 7, Due: 100}, api.Note{Kind: kind, Run: 7, Attempt: 1, Token: 1, Due: 10})
		}
	}
	for _, id := range []int{0, 1, 6, 8, -7} {
		d.refuses(api.Note{Kind: api.NoteSubmitted, Run: id, Due: 100})
	}
	if refused := d.probe(); refused < 300 {
		t.Errorf("only %d notes were tried", refused)
	}
	d.takes(api.Note{Kind: api.NoteSubmitted, Run: 7, Due: 100})
}

// stories are ones in which each kind of note comes, in each place where it may.
func stories() []api.Story {
	beats := with(line(), func(n *api.Node) { n.Beat = 6 })
	once := with(line(), func(n *api.Node) { n.Budget = 1 })
	short := with(tree(), func(n *api.Node) { n.Budget, n.Jitter = 1, 3 })
	return []api.Story{
		{Run: 1, Plan: line(), Notes: storyOf(woken + "; Leased 20 Node 0 Attempt 2 Token 9 Due 30; Done 29 Node 0 Attempt 2; Ready 29 Node 1; Leased 29 Node 1 Attempt 1 Token 10 Due 39; Done 30 Node 1 Attempt 1; Ended 30 RunSucceeded; Forgotten 30")},
		{Run: 1, Plan: beats, Notes: storyOf(begun + "; Leased 3 Node 0 Attempt 1 Token 5 Due 13; Beaten 8 Node 0 Attempt 1 Token 5 Due 14; Beaten 8 Node 0 Attempt 1 Token 5 Due 14; Failed 13 Node 0 Attempt 1 WhyClosed; Backoff 13 Node 0 Attempt 1 Due 17; Ready 17 Node 0; Leased 20 Node 0 Attempt 2 Token 1099511627776 Due 30; Failed 26 Node 0 Attempt 2 WhyBeat; Dead 26 Node 0 Attempt 2 WhyBudget; Skipped 26 Node 1; Ended 26 RunFailed; Forgotten 4611686018427387904")},
		{Run: 1, Plan: once, Notes: storyOf(begun + "; Leased 0 Node 0 Attempt 1 Token 1 Due 10; Failed 0 Node 0 Attempt 1 WhyTold; Dead 0 Node 0 Attempt 1 WhyBudget; Skipped 0 Node 1; Ended 0 RunFailed")},
		{Run: 1, Plan: line(), Notes: storyOf(handed + "; Dead 12 Node 0 Attempt 1 WhyCancelled; Skipped 12 Node 1; Ended 12 RunCancelled; Forgotten 12")},
		{Run: 1, Plan: line(), Notes: storyOf(woken + "; Dead 100 Node 0 Attempt 1 WhyDeadline; Skipped 100 Node 1; Ended 100 RunExpired; Forgotten 1000")},
		{Run: 1, Plan: short, Notes: storyOf(begun + "; Leased 1 Node 0 Attempt 1 Token 1 Due 11; Done 2 Node 0 Attempt 1; Ready 2 Node 1; Ready 2 Node 2; Leased 2 Node 2 Attempt 1 Token 2 Due 12; Leased 2 Node 1 Attempt 1 Token 3 Due 12; Failed 12 Node 2 Attempt 1 WhyClosed; Dead 12 Node 2 Attempt 1 WhyBudget; Skipped 12 Node 4; Ready 12 Node 5; Failed 12 Node 1 Attempt 1 WhyClosed; Dead 12 Node 1 Attempt 1 WhyBudget; Skipped 12 Node 3; Leased 12 Node 5 Attempt 1 Token 4 Due 22; Done 13 Node 5 Attempt 1; Ended 13 RunFailed")},
		{Run: 1, Plan: with(tree(), func(n *api.Node) { n.Jitter = 3 }), Notes: storyOf(begun + "; Leased 1 Node 0 Attempt 1 Token 1 Due 11; Done 2 Node 0 Attempt 1; Ready 2 Node 1; Ready 2 Node 2; Leased 3 Node 1 Attempt 1 Token 2 Due 13; Leased 3 Node 2 Attempt 1 Token 8 Due 13; Failed 5 Node 2 Attempt 1 WhyTold; Backoff 5 Node 2 Attempt 1 Due 12; Dead 11 Node 1 Attempt 1 WhyCancelled; Dead 11 Node 2 Attempt 1 WhyCancelled; Skipped 11 Node 3; Skipped 11 Node 4; Skipped 11 Node 5; Ended 11 RunCancelled")},
	}
}

// P16.2, P16.3: each story is taken; ahead of each of its notes, all others are tried, with each field turned alone.
func TestStories(t *testing.T) {
	kinds := map[int]int{}
	for _, s := range stories() {
		d := begin(t, "P16.2", s.Run, s.Plan)
		for _, n := range s.Notes {
			if refused := d.probe(); refused < 300 {
				t.Errorf("%s: only %d notes were tried", d.story(), refused)
			}
			d.takes(n)
			kinds[n.Kind]++
		}
		d.probe()
	}
	if len(kinds) != 11 {
		t.Errorf("these kinds came alone: %v", kinds)
	}
}

// uses are the fields that a kind uses beside Kind, Time and Run, as the chapter's table says.
func uses(kind int) string {
	switch kind {
	case api.NoteSubmitted:
		return "Due"
	case api.NoteReady, api.NoteSkipped:
		return "Node"
	case api.NoteLeased, api.NoteBeaten:
		return "Node Attempt Token Due"
	case api.NoteDone:
		return "Node Attempt"
	case api.NoteFailed, api.NoteDead:
		return "Node Attempt Why"
	case api.NoteBackoff:
		return "Node Attempt Due"
	case api.NoteEnded:
		return "Why"
	}
	return ""
}

// P16.2: whatever field a kind does not use is 0, wherever the note comes.
func TestUnusedFields(t *testing.T) {
	names := strings.Fields("Kind Time Run Node Attempt Token Due Why")
	tried := map[int]int{}
	for _, s := range stories() {
		d := begin(t, "P16.2", s.Run, s.Plan)
		for _, n := range s.Notes {
			for i := 3; i < len(names); i++ {
				if slices.Contains(strings.Fields(uses(n.Kind)), names[i]) {
					continue
				}
				for _, to := range []int{1, 2, -1, n.Time, n.Time + 1, 1 << 40, 1 << 62, math.MaxInt, math.MinInt} {
					if bad := n; to != 0 {
						*fields(&bad)[i] = to
						d.refuses(bad)
						tried[n.Kind]++
					}
				}
			}
			d.takes(n)
		}
	}
	for kind := 1; kind <= 11; kind++ {
		if tried[kind] == 0 {
			t.Errorf("P16.2: kind %d was not tried", kind)
		}
	}
}

// P16.2: the first of those that are owed, at the last note's Time, and nothing else, whatever could come if nothing were owed.
func TestOwed(t *testing.T) {
	p := of(nodeOf("a"), nodeOf("b"), nodeOf("c", 0), nodeOf("d", 2))
	once := with(p, func(n *api.Node) { n.Budget = 1 })
	three := begun + "; Ready 0 Node 1"
	goThrough(t, "P16.2", p, []row{
		{"Submitted 5 Due 105", "Ready 5 Node 0", true}, {"Submitted 5 Due 105", "Ready 5 Node 1", false}, {"Submitted 5 Due 105", "Ready 4 Node 0", false}, {"Submitted 5 Due 105", "Ready 6 Node 0", false}, {"Submitted 5 Due 105", "Ready 5 Node 2", false},
		{begun, "Ready 0 Node 1", true}, {begun, "Ready 0 Node 0", false}, {begun, "Leased 0 Node 0 Attempt 1 Token 1 Due 10", false}, {begun, "Dead 0 Node 0 WhyCancelled", false}, {begun, "Dead 100 Node 0 WhyDeadline", false},
		{three, "Ready 0 Node 2", false}, {three, "Leased 0 Node 1 Attempt 1 Token 1 Due 10", true},
		{three + "; Dead 5 Node 0 WhyCancelled", "Dead 5 Node 1 WhyCancelled", true},
		{three + "; Dead 5 Node 0 WhyCancelled", "Dead 5 Node 1 WhyDeadline", false},
		{three + "; Dead 5 Node 0 WhyCancelled", "Dead 5 Node 1 WhyBudget", false},
		{three + "; Dead 5 Node 0 WhyCancelled", "Dead 6 Node 1 WhyCancelled", false},
		{three + "; Dead 5 Node 0 WhyCancelled", "Skipped 5 Node 2", false},
		{three + "; Dead 5 Node 0 WhyCancelled; Dead 5 Node 1 WhyCancelled", "Skipped 5 Node 2", true},
		{three + "; Dead 5 Node 0 WhyCancelled; Dead 5 Node 1 WhyCancelled", "Skipped 5 Node 3", false},
		{three + "; Dead 5 Node 0 WhyCancelled; Dead 5 Node 1 WhyCancelled; Skipped 5 Node 2", "Ended 5 RunCancelled", false},
		{three + "; Dead 5 Node 0 WhyCancelled; Dead 5 Node 1 WhyCancelled; Skipped 5 Node 2", "Skipped 5 Node 3", true},
		{three + "; Dead 5 Node 0 WhyCancelled; Dead 5 Node 1 WhyCancelled; Skipped 5 Node 2; Skipped 5 Node 3", "Ended 5 RunCancelled", true},
		{three + "; Dead 5 Node 0 WhyCancelled; Dead 5 Node 1 WhyCancelled; Skipped 5 Node 2; Skipped 5 Node 3", "Ended 5 RunFailed", false},
		{three + "; Dead 5 Node 0 WhyCancelled; Dead 5 Node 1 WhyCancelled; Skipped 5 Node 2; Skipped 5 Node 3", "Ended 6 RunCancelled", false},
		{three + "; Dead 5 Node 0 WhyCancelled; Dead 5 Node 1 WhyCancelled; Skipped 5 Node 2; Skipped 5 Node 3", "Forgotten 5", false},
	})
	lost := three + "; Leased 0 Node 0 Attempt 1 Token 1 Due 10; Leased 0 Node 1 Attempt 1 Token 2 Due 10; Failed 1 Node 0 Attempt 1 WhyTold"
	goThrough(t, "P16.2", once, []row{
		{lost, "Dead 1 Node 0 Attempt 1 WhyBudget", true}, {lost, "Dead 1 Node 0 Attempt 1 WhyTold", false}, {lost, "Dead 1 Node 0 WhyBudget", false}, {lost, "Backoff 1 Node 0 Attempt 1 Due 5", false}, {lost, "Skipped 1 Node 2", false}, {lost, "Done 1 Node 1 Attempt 1", false},
		{lost + "; Dead 1 Node 0 Attempt 1 WhyBudget", "Skipped 1 Node 2", true}, {lost + "; Dead 1 Node 0 Attempt 1 WhyBudget", "Skipped 1 Node 3", false}, {lost + "; Dead 1 Node 0 Attempt 1 WhyBudget", "Done 1 Node 1 Attempt 1", false},
		{lost + "; Dead 1 Node 0 Attempt 1 WhyBudget; Skipped 1 Node 2; Skipped 1 Node 3", "Done 1 Node 1 Attempt 1", true},
		{lost + "; Dead 1 Node 0 Attempt 1 WhyBudget; Skipped 1 Node 2; Skipped 1 Node 3", "Ended 1 RunFailed", false},
		{lost + "; Dead 1 Node 0 Attempt 1 WhyBudget; Skipped 1 Node 2; Skipped 1 Node 3; Done 1 Node 1 Attempt 1", "Ended 1 RunFailed", true},
		{lost + "; Dead 1 Node 0 Attempt 1 WhyBudget; Skipped 1 Node 2; Skipped 1 Node 3; Done 1 Node 1 Attempt 1", "Ended 1 RunSucceeded", false},
	})
}

// P16.2: nodes that are skipped are told in the order in which they are, not by their numbers.
func TestSkippedOrder(t *testing.T) {
	p := with(of(nodeOf("a", 2), nodeOf("b"), nodeOf("c", 1), nodeOf("d", 1)), func(n *api.Node) { n.Budget = 1 })
	d := at(t, "P16.2", p, "Submitted 0 Due 100; Ready 0 Node 1; Leased 0 Node 1 Attempt 1 Token 1 Due 10; Failed 0 Node 1 Attempt 1 WhyTold; Dead 0 Node 1 Attempt 1 WhyBudget")
	d.refuses(storyOf("Skipped 0 Node 0; Skipped 0 Node 3")...)
	d.takes(storyOf("Skipped 0 Node 2; Skipped 0 Node 0; Skipped 0 Node 3; Ended 0 RunFailed")...)
	d = at(t, "P16.2", p, "Submitted 0 Due 100; Ready 0 Node 1; Dead 0 Node 1 WhyCancelled")
	d.takes(storyOf("Skipped 0 Node 0; Skipped 0 Node 2; Skipped 0 Node 3; Ended 0 RunCancelled")...)
}

// P16.2: behind NoteEnded NoteForgotten alone may come, once, at a time that may be; then nothing.
func TestEnd(t *testing.T) {
	over := begun + "; Dead 5 Node 0 WhyCancelled; Skipped 5 Node 1; Ended 5 RunCancelled"
	goThrough(t, "P16.2", line(), []row{
		{over, "Forgotten 5", true}, {over, "Forgotten 6", true}, {over, "Forgotten 4", false}, {over, "Forgotten 100", true}, {over, "Forgotten 101", true}, {over, "Forgotten -1", false},
		{over, fmt.Sprint("Forgotten ", 1<<62), true}, {over, fmt.Sprint("Forgotten ", 1<<62+1), false}, {over, fmt.Sprint("Forgotten ", math.MaxInt), false}, {over, "Forgotten 5 Run 2", false},
		{over, "Ended 5 RunCancelled", false}, {over, "Submitted 5 Due 105", false}, {over, "Dead 100 Node 0 WhyDeadline", false}, {over, "Leased 6 Node 0 Attempt 1 Token 1 Due 16", false}, {over, "Ready 6 Node 0", false},
		{begun, "Forgotten 5", false}, {"", "Forgotten 5", false}, {begun, "Ended 5 RunCancelled", false}, {begun, "Ended 100 RunExpired", false},
	})
	d := at(t, "P16.2", line(), over+"; Forgotten 7")
	for _, n := range append(storyOf("Forgotten 7; Forgotten 8; Submitted 8 Due 108; Ended 7 RunCancelled; Forgotten 8 Run 9; Ready -1 Node 99"), api.Note{}, api.Note{Kind: 77}) {
		if code := d.add(n); code != api.ErrHistoryRest {
			t.Errorf("P16.2: behind Forgotten: %s: %d", textOf(n), code)
		}
	}
	d.probe()
}

// P16.2: NoteLeased: of a ready node, with the next attempt, a greater token, and just its Due.
func TestLeased(t *testing.T) {
	beats := with(pair(), func(n *api.Node) { n.Beat = 3 })
	one := both + "; Leased 3 Node 0 Attempt 1 Token 5 Due 13"
	for _, p := range []api.Plan{pair(), beats} {
		goThrough(t, "P16.2", p, []row{
			{both, "Leased 0 Node 0 Attempt 1 Token 1 Due 10", true}, {both, "Leased 0 Node 1 Attempt 1 Token 1 Due 10", true},
			{both, "Leased 0 Node 2 Attempt 1 Token 1 Due 10", false}, {both, "Leased 0 Node -1 Attempt 1 Token 1 Due 10", false}, {both, "Leased 0 Node 64 Attempt 1 Token 1 Due 10", false},
			{both, "Leased 0 Node 0 Attempt 0 Token 1 Due 10", false}, {both, "Leased 0 Node 0 Attempt 2 Token 1 Due 10", false}, {both, "Leased 0 Node 0 Attempt 1 Token 1 Due 10 Why 1", false},
			{both, "Leased 0 Node 0 Attempt 1 Token 1099511627776 Due 10", true}, {both, "Leased 0 Node 0 Attempt 1 Token 1099511627777 Due 10", false}, {both, "Leased 0 Node 0 Attempt 1 Token -1 Due 10", false},
			{both, "Leased 89 Node 0 Attempt 1 Token 1 Due 99", true}, {both, "Leased 90 Node 0 Attempt 1 Token 1 Due 100", true}, {both, "Leased 91 Node 0 Attempt 1 Token 1 Due 100", true}, {both, "Leased 91 Node 0 Attempt 1 Token 1 Due 101", false}, {both, "Leased 99 Node 0 Attempt 1 Token 1 Due 100", true}, {both, "Leased 100 Node 0 Attempt 1 Token 1 Due 100", false}, {both, "Leased 101 Node 0 Attempt 1 Token 1 Due 100", false},
			{one, "Leased 3 Node 1 Attempt 1 Token 6 Due 13", true}, {one, "Leased 3 Node 1 Attempt 1 Token 5 Due 13", false}, {one, "Leased 3 Node 1 Attempt 1 Token 4 Due 13", false}, {one, "Leased 2 Node 1 Attempt 1 Token 6 Due 12", false}, {one, "Leased 3 Node 0 Attempt 2 Token 6 Due 13", false}, {one, "Leased 3 Node 1 Attempt 1 Token 6 Due 13 Run 2", false},
			{one + "; Done 4 Node 0 Attempt 1", "Leased 4 Node 1 Attempt 1 Token 5 Due 14", false}, {one + "; Done 4 Node 0 Attempt 1", "Leased 4 Node 1 Attempt 1 Token 6 Due 14", true}, {one + "; Done 4 Node 0 Attempt 1", "Leased 4 Node 0 Attempt 2 Token 6 Due 14", false},
		})
	}
	goThrough(t, "P16.2", line(), []row{
		{begun, "Leased 3 Node 1 Attempt 1 Token 5 Due 13", false}, {closed, "Leased 13 Node 0 Attempt 2 Token 6 Due 23", false}, {backed, "Leased 16 Node 0 Attempt 2 Token 6 Due 26", false}, {backed, "Leased 17 Node 0 Attempt 2 Token 6 Due 27", false},
		{woken, "Leased 17 Node 0 Attempt 2 Token 6 Due 27", true}, {woken, "Leased 17 Node 0 Attempt 1 Token 6 Due 27", false}, {woken, "Leased 17 Node 0 Attempt 2 Token 5 Due 27", false}, {woken, "Leased 16 Node 0 Attempt 2 Token 6 Due 26", false},
	})
	last := at(t, "P16.2", pair(), both+"; Leased 3 Node 0 Attempt 1 Token 1099511627776 Due 13")
	last.refuses(storyOf("Leased 3 Node 1 Attempt 1 Token 1099511627776 Due 13; Leased 3 Node 1 Attempt 1 Token 1099511627777 Due 13; Leased 3 Node 1 Attempt 1 Token 1 Due 13")...)
}

// P16.2: NoteBeaten: of a leased node that is to beat, with its Attempt and Token; its beat is made anew.
func TestBeaten(t *testing.T) {
	beats := with(pair(), func(n *api.Node) { n.Beat = 6 })
	beats.Nodes[1].Beat = 0
	one := both + "; Leased 3 Node 0 Attempt 1 Token 5 Due 13; Leased 3 Node 1 Attempt 1 Token 6 Due 13"
	goThrough(t, "P16.2", beats, []row{
		{one, "Beaten 3 Node 0 Attempt 1 Token 5 Due 9", true}, {one, "Beaten 8 Node 0 Attempt 1 Token 5 Due 14", true}, {one, "Beaten 9 Node 0 Attempt 1 Token 5 Due 15", false}, {one, "Beaten 2 Node 0 Attempt 1 Token 5 Due 8", false},
		{one, "Beaten 8 Node 0 Attempt 1 Token 5 Due 13", false}, {one, "Beaten 8 Node 0 Attempt 1 Token 5 Due 15", false}, {one, "Beaten 8 Node 0 Attempt 1 Token 6 Due 14", false}, {one, "Beaten 8 Node 0 Attempt 2 Token 5 Due 14", false}, {one, "Beaten 8 Node 0 Attempt 0 Token 5 Due 14", false}, {one, "Beaten 8 Node 0 Attempt 1 Token 5 Due 14 Why 1", false},
		{one, "Beaten 8 Node 1 Attempt 1 Token 6 Due 8", false}, {one, "Beaten 8 Node 1 Attempt 1 Token 6", false}, {one, "Beaten 8 Node 1 Attempt 1 Token 6 Due 14", false}, {one, "Beaten 8 Node 2 Attempt 1 Token 6 Due 14", false}, {one, "Beaten 8 Node -1 Attempt 1 Token 6 Due 14", false},
		{both, "Beaten 3 Node 0 Attempt 1 Token 1 Due 9", false}, {both, "Beaten 3 Node 0 Due 9", false}, {one + "; Done 3 Node 0 Attempt 1", "Beaten 3 Node 0 Attempt 1 Token 5 Due 9", false}, {one + "; Done 3 Node 0 Attempt 1", "Beaten 3 Node 0 Attempt 1 Due 9", false},
		{one, "Failed 9 Node 0 Attempt 1 WhyBeat", true}, {one + "; Beaten 8 Node 0 Attempt 1 Token 5 Due 14", "Failed 9 Node 0 Attempt 1 WhyBeat", false}, {one + "; Beaten 8 Node 0 Attempt 1 Token 5 Due 14", "Failed 13 Node 0 Attempt 1 WhyClosed", true}, {one + "; Beaten 8 Node 0 Attempt 1 Token 5 Due 14", "Done 12 Node 0 Attempt 1", true},
		{one + "; Beaten 5 Node 0 Attempt 1 Token 5 Due 11; Beaten 6 Node 0 Attempt 1 Token 5 Due 12", "Failed 11 Node 0 Attempt 1 WhyBeat", false}, {one + "; Beaten 5 Node 0 Attempt 1 Token 5 Due 11; Beaten 6 Node 0 Attempt 1 Token 5 Due 12", "Failed 12 Node 0 Attempt 1 WhyBeat", true},
	})
	late := with(pair(), func(n *api.Node) { n.Beat, n.Close = 20, 50 })
	goThrough(t, "P16.2", late, []row{
		{both + "; Leased 70 Node 0 Attempt 1 Token 5 Due 100", "Beaten 79 Node 0 Attempt 1 Token 5 Due 99", true}, {both + "; Leased 70 Node 0 Attempt 1 Token 5 Due 100", "Beaten 80 Node 0 Attempt 1 Token 5 Due 100", true}, {both + "; Leased 70 Node 0 Attempt 1 Token 5 Due 100", "Beaten 89 Node 0 Attempt 1 Token 5 Due 100", true}, {both + "; Leased 70 Node 0 Attempt 1 Token 5 Due 100", "Beaten 89 Node 0 Attempt 1 Token 5 Due 109", false},
		{both + "; Leased 85 Node 0 Attempt 1 Token 5 Due 100", "Beaten 99 Node 0 Attempt 1 Token 5 Due 100", true},
	})
}

// P16.2: NoteDone: of a leased node, its Attempt; then who may begin is owed, or the end.
func TestDone(t *testing.T) {
	end := handed + "; Done 12 Node 0 Attempt 1; Ready 12 Node 1; Leased 12 Node 1 Attempt 1 Token 6 Due 22"
	goThrough(t, "P16.2", line(), []row{
		{handed, "Done 3 Node 0 Attempt 1", true}, {handed, "Done 12 Node 0 Attempt 1", true}, {handed, "Done 13 Node 0 Attempt 1", false}, {handed, "Done 14 Node 0 Attempt 1", false}, {handed, "Done 2 Node 0 Attempt 1", false},
		{handed, "Done 12 Node 0", false}, {handed, "Done 12 Node 0 Attempt 2", false}, {handed, "Done 12 Node 1 Attempt 1", false}, {handed, "Done 12 Node 2 Attempt 1", false}, {handed, "Done 12 Node -1 Attempt 1", false}, {handed, "Done 12 Node 0 Attempt 1 Run 2", false}, {handed, "Done 12 Node 0 Attempt 1 Token 5", false},
		{begun, "Done 3 Node 0", false}, {begun, "Done 3 Node 0 Attempt 1", false}, {backed, "Done 14 Node 0 Attempt 1", false}, {woken, "Done 17 Node 0 Attempt 1", false},
		{woken + "; Leased 17 Node 0 Attempt 2 Token 6 Due 27", "Done 18 Node 0 Attempt 2", true}, {woken + "; Leased 17 Node 0 Attempt 2 Token 6 Due 27", "Done 18 Node 0 Attempt 1", false},
		{handed + "; Done 12 Node 0 Attempt 1", "Ready 12 Node 1", true}, {handed + "; Done 12 Node 0 Attempt 1", "Ready 12 Node 0", false}, {handed + "; Done 12 Node 0 Attempt 1", "Ready 13 Node 1", false}, {handed + "; Done 12 Node 0 Attempt 1; Ready 12 Node 1", "Done 12 Node 0 Attempt 1", false},
		{handed + "; Done 12 Node 0 Attempt 1; Ready 12 Node 1", "Failed 13 Node 0 Attempt 1 WhyClosed", false}, {handed + "; Done 12 Node 0 Attempt 1; Ready 12 Node 1", "Leased 13 Node 1 Attempt 1 Token 6 Due 23", true},
		{end + "; Done 13 Node 1 Attempt 1", "Ended 13 RunSucceeded", true}, {end + "; Done 13 Node 1 Attempt 1", "Ended 13 RunFailed", false}, {end + "; Done 13 Node 1 Attempt 1", "Ended 14 RunSucceeded", false}, {end + "; Done 13 Node 1 Attempt 1", "Ended 13 RunLive", false}, {end, "Ended 13 RunSucceeded", false},
	})
	if s := at(t, "P16.3", line(), end+"; Done 21 Node 1 Attempt 1; Ended 21 RunSucceeded").b.Run(); s.Status != api.RunSucceeded || s.Ended != 21 {
		t.Errorf("P16.3: %+v", s)
	}
}

// P16.2: an attempt fails, for each reason: told ahead of all timers, closed and without a beat just in time.
func TestFailed(t *testing.T) {
	beats := with(line(), func(n *api.Node) { n.Beat = 6 })
	for _, why := range []string{"WhyBudget", "WhyCancelled", "WhyDeadline", "Why 0", "Why 7", "Why -1"} {
		for _, time := range []int{3, 9, 12, 13} {
			for _, p := range []api.Plan{line(), beats} {
				goThrough(t, "P16.2", p, []row{{handed, fmt.Sprintf("Failed %d Node 0 Attempt 1 %s", time, why), false}})
			}
		}
	}
	goThrough(t, "P16.2", line(), []row{
		{handed, "Failed 3 Node 0 Attempt 1 WhyTold", true}, {handed, "Failed 12 Node 0 Attempt 1 WhyTold", true}, {handed, "Failed 13 Node 0 Attempt 1 WhyTold", false}, {handed, "Failed 2 Node 0 Attempt 1 WhyTold", false},
		{handed, "Failed 13 Node 0 Attempt 1 WhyClosed", true}, {handed, "Failed 12 Node 0 Attempt 1 WhyClosed", false}, {handed, "Failed 14 Node 0 Attempt 1 WhyClosed", false}, {handed, "Failed 13 Node 0 Attempt 1 WhyBeat", false},
		{handed, "Failed 13 Node 1 Attempt 1 WhyClosed", false}, {handed, "Failed 13 Node 0 Attempt 2 WhyClosed", false}, {handed, "Failed 13 Node 0 WhyClosed", false}, {handed, "Failed 13 Node 0 Attempt 1 WhyClosed Token 5", false}, {handed, "Failed 13 Node 0 Attempt 1 WhyClosed Due 17", false}, {handed, "Failed 13 Node 0 Attempt 1 WhyClosed Run 2", false},
		{handed, "Failed 5 Node 1 Attempt 1 WhyTold", false}, {handed, "Failed 5 Node 1 WhyTold", false}, {handed, "Failed 5 Node 2 Attempt 1 WhyTold", false}, {handed, "Failed 5 Node -1 Attempt 1 WhyTold", false}, {handed, "Failed 5 Node 0 WhyTold", false}, {handed, "Failed 5 Node 0 Attempt 2 WhyTold", false},
		{begun, "Failed 5 Node 0 WhyTold", false}, {begun, "Failed 5 Node 0 Attempt 1 WhyTold", false}, {closed, "Failed 13 Node 0 Attempt 1 WhyTold", false}, {backed, "Failed 13 Node 0 Attempt 1 WhyTold", false}, {woken, "Failed 17 Node 0 Attempt 1 WhyTold", false},
	})
	goThrough(t, "P16.2", beats, []row{
		{handed, "Failed 9 Node 0 Attempt 1 WhyBeat", true}, {handed, "Failed 8 Node 0 Attempt 1 WhyBeat", false}, {handed, "Failed 9 Node 0 Attempt 1 WhyTold", false}, {handed, "Failed 9 Node 0 Attempt 1 WhyClosed", false}, {handed, "Failed 8 Node 0 Attempt 1 WhyTold", true}, {handed, "Failed 13 Node 0 Attempt 1 WhyClosed", false}, {handed, "Failed 13 Node 0 Attempt 1 WhyBeat", false},
		{handed + "; Failed 9 Node 0 Attempt 1 WhyBeat; Backoff 9 Node 0 Attempt 1 Due 13", "Failed 13 Node 0 Attempt 1 WhyClosed", false}, {handed + "; Failed 9 Node 0 Attempt 1 WhyBeat; Backoff 9 Node 0 Attempt 1 Due 13", "Ready 13 Node 0", true},
		{handed + "; Failed 5 Node 0 Attempt 1 WhyTold; Backoff 5 Node 0 Attempt 1 Due 9", "Failed 9 Node 0 Attempt 1 WhyBeat", false}, {handed + "; Failed 5 Node 0 Attempt 1 WhyTold; Backoff 5 Node 0 Attempt 1 Due 9", "Ready 9 Node 0", true},
	})
	spent := woken + "; Leased 20 Node 0 Attempt 2 Token 6 Due 30; Failed 30 Node 0 Attempt 2 WhyClosed"
	goThrough(t, "P16.2", line(), []row{
		{spent, "Dead 30 Node 0 Attempt 2 WhyBudget", true}, {spent, "Dead 30 Node 0 Attempt 2 WhyClosed", false}, {spent, "Dead 30 Node 0 Attempt 1 WhyBudget", false}, {spent, "Backoff 30 Node 0 Attempt 2 Due 38", false}, {spent, "Skipped 30 Node 1", false},
		{spent + "; Dead 30 Node 0 Attempt 2 WhyBudget; Skipped 30 Node 1", "Ended 30 RunFailed", true}, {spent + "; Dead 30 Node 0 Attempt 2 WhyBudget; Skipped 30 Node 1", "Ended 30 RunExpired", false},
	})
}

// P16.2: the bounds of a backoff's Due: the delay of this attempt, and all that chance may add, both at most the run's Due.
func TestBackoff(t *testing.T) {
	for _, x := range []struct {
		base, most, jitter, budget, deadline int
		delays                               []int // of the attempts, by hand
	}{
		{4, 8, 0, 5, 1000, []int{4, 8, 8, 8}},
		{4, 8, 3, 5, 1000, []int{4, 8, 8, 8}},
		{3, 100, 7, 8, 1000, []int{3, 6, 12, 24, 48, 96, 100}},
		{1, 1, 1, 3, 1000, []int{1, 1}},
		{5, 5, 100, 3, 50, []int{5, 5}},
		{1, 1 << 40, 1 << 40, 50, 1 << 40, []int{1, 2, 4, 8, 16, 32, 64, 128, 256, 512, 1024, 2048, 4096, 8192, 16384, 32768}},
		{1 << 40, 1 << 40, 1 << 40, 2, 1 << 40, []int{1 << 40}},
	} {
		node := api.Node{Name: "a", Budget: x.budget, Close: 1 << 40, Base: x.base, Cap: x.most, Jitter: x.jitter}
		for _, start := range []int{0, 1<<62 - x.deadline} {
			d := begin(t, "P16.2", 3, until(of(node), x.deadline))
			due := start + x.deadline
			d.takes(api.Note{Kind: 1, Time: start, Run: 3, Due: due}, api.Note{Kind: 2, Time: start, Run: 3})
			now := start
			for i, wait := range x.delays {
				attempt := i + 1
				d.takes(api.Note{Kind: 3, Time: now, Run: 3, Attempt: attempt, Token: attempt, Due: min(now+1<<40, due)})
				d.takes(api.Note{Kind: 6, Time: now, Run: 3, Attempt: attempt, Why: 1})
				least, most := min(now+wait, due), min(now+wait+x.jitter, due)
				back := func(to int) api.Note {
					return api.Note{Kind: 7, Time: now, Run: 3, Attempt: attempt, Due: to}
				}
				d.refuses(back(least-1), back(most+1), back(0), back(-1), back(math.MaxInt), back(math.MinInt))
				for _, to := range []int{least, least + (most-least)/2, most} {
					d.fork().takes(back(to))
				}
				d.probe()
				d.takes(back(least))
				if least == due {
					break
				}
				now = least
				d.takes(api.Note{Kind: 2, Time: now, Run: 3})
			}
		}
	}
}

// P16.2: NoteDead, WhyCancelled, of the least node that is not settled and does not wait; then all that the stop brings.
func TestCancelled(t *testing.T) {
	p := tree()
	two := begun + "; Leased 1 Node 0 Attempt 1 Token 1 Due 11; Done 2 Node 0 Attempt 1; Ready 2 Node 1; Ready 2 Node 2"
	three := two + "; Leased 2 Node 2 Attempt 1 Token 2 Due 12; Failed 3 Node 2 Attempt 1 WhyTold; Backoff 3 Node 2 Attempt 1 Due 7; Leased 3 Node 1 Attempt 1 Token 3 Due 13"
	goThrough(t, "P16.2", p, []row{
		{two, "Dead 2 Node 1 WhyCancelled", true}, {two, "Dead 99 Node 1 WhyCancelled", true}, {two, "Dead 100 Node 1 WhyCancelled", false}, {two, "Dead 1 Node 1 WhyCancelled", false}, {two, "Dead 2 Node 0 WhyCancelled", false}, {two, "Dead 2 Node 2 WhyCancelled", false}, {two, "Dead 2 Node 3 WhyCancelled", false}, {two, "Dead 2 Node 1 WhyDeadline", false}, {two, "Dead 2 Node 1 WhyBudget", false}, {two, "Dead 2 Node 1 Attempt 1 WhyCancelled", false}, {two, "Dead 2 Node 1 WhyCancelled Run 2", false}, {two, "Skipped 2 Node 3", false},
		{three, "Dead 6 Node 1 Attempt 1 WhyCancelled", true}, {three, "Dead 7 Node 1 Attempt 1 WhyCancelled", false}, {three, "Dead 6 Node 1 WhyCancelled", false}, {three, "Dead 6 Node 2 Attempt 1 WhyCancelled", false},
	})
	d := at(t, "P16.2", p, three)
	d.takes(storyOf("Dead 6 Node 1 Attempt 1 WhyCancelled; Dead 6 Node 2 Attempt 1 WhyCancelled; Skipped 6 Node 3; Skipped 6 Node 4; Skipped 6 Node 5; Ended 6 RunCancelled; Forgotten 6")...)
}

// P16.2: at its Due the run is stopped, ahead of all timers that were made behind the deadline's.
func TestDeadline(t *testing.T) {
	d := at(t, "P16.2", line(), begun+"; Leased 95 Node 0 Attempt 1 Token 1 Due 100")
	d.refuses(storyOf("Failed 100 Node 0 Attempt 1 WhyClosed; Dead 100 Node 0 Attempt 1 WhyCancelled; Dead 99 Node 0 Attempt 1 WhyDeadline; Dead 101 Node 0 Attempt 1 WhyDeadline; Dead 100 Node 0 WhyDeadline; Dead 100 Node 1 WhyDeadline; Ended 100 RunExpired; Skipped 100 Node 1; Done 100 Node 0 Attempt 1")...)
	d.takes(noteOf("Dead 100 Node 0 Attempt 1 WhyDeadline"))
	d.refuses(storyOf("Failed 100 Node 0 Attempt 1 WhyClosed; Skipped 101 Node 1; Ended 100 RunExpired")...)
	d.takes(noteOf("Skipped 100 Node 1"))
	d.refuses(storyOf("Ended 100 RunCancelled; Ended 100 RunFailed; Ended 101 RunExpired")...)
	d.takes(storyOf("Ended 100 RunExpired; Forgotten 100")...)
	late := at(t, "P16.2", line(), begun+"; Leased 90 Node 0 Attempt 1 Token 1 Due 100; Failed 97 Node 0 Attempt 1 WhyTold; Backoff 97 Node 0 Attempt 1 Due 100")
	late.refuses(storyOf("Ready 100 Node 0; Ready 101 Node 0")...)
	late.takes(noteOf("Dead 100 Node 0 Attempt 1 WhyDeadline"))
}

// P16.2: of several timers of one time the one comes first that was made first.
func TestFirstTimer(t *testing.T) {
	same := with(pair(), func(n *api.Node) { n.Close, n.Beat, n.Base, n.Cap = 10, 10, 10, 10 })
	two := both + "; Leased 3 Node 1 Attempt 1 Token 1 Due 13; Leased 3 Node 0 Attempt 1 Token 2 Due 13"
	shut := two + "; Failed 13 Node 1 Attempt 1 WhyClosed; Backoff 13 Node 1 Attempt 1 Due 23"
	half := both + "; Leased 3 Node 1 Attempt 1 Token 1 Due 13; Failed 3 Node 1 Attempt 1 WhyTold; Backoff 3 Node 1 Attempt 1 Due 13; Leased 3 Node 0 Attempt 1 Token 2 Due 13"
	other := both + "; Leased 3 Node 1 Attempt 1 Token 1 Due 13; Leased 3 Node 0 Attempt 1 Token 2 Due 13; Failed 3 Node 1 Attempt 1 WhyTold; Backoff 3 Node 1 Attempt 1 Due 13"
	for _, x := range []struct {
		ahead string
		right string
	}{
		{two, "Failed 13 Node 1 Attempt 1 WhyClosed"}, {shut, "Failed 13 Node 0 Attempt 1 WhyClosed"}, {half, "Ready 13 Node 1"}, {half + "; Ready 13 Node 1", "Failed 13 Node 0 Attempt 1 WhyClosed"},
		{other, "Failed 13 Node 0 Attempt 1 WhyClosed"}, {other + "; Failed 13 Node 0 Attempt 1 WhyClosed; Backoff 13 Node 0 Attempt 1 Due 23", "Ready 13 Node 1"},
	} {
		for _, next := range []string{"Failed 13 Node 0 Attempt 1 WhyClosed", "Failed 13 Node 1 Attempt 1 WhyClosed", "Failed 13 Node 0 Attempt 1 WhyBeat", "Failed 13 Node 1 Attempt 1 WhyBeat", "Ready 13 Node 0", "Ready 13 Node 1", "Done 13 Node 0 Attempt 1", "Done 13 Node 1 Attempt 1", "Dead 13 Node 0 Attempt 1 WhyCancelled", "Beaten 13 Node 0 Attempt 1 Token 2 Due 23", "Leased 13 Node 1 Attempt 2 Token 7 Due 23"} {
			goThrough(t, "P16.2", same, []row{{x.ahead, next, next == x.right}})
		}
	}
	// A beat that was made anew stands behind what was made meanwhile.
	uneven := with(pair(), func(n *api.Node) { n.Close, n.Beat = 10, 6 })
	uneven.Nodes[1].Close = 6
	lag := both + "; Leased 3 Node 0 Attempt 1 Token 1 Due 13; Leased 4 Node 1 Attempt 1 Token 2 Due 10"
	goThrough(t, "P16.2", uneven, []row{
		{lag, "Failed 9 Node 0 Attempt 1 WhyBeat", true}, {lag + "; Beaten 4 Node 0 Attempt 1 Token 1 Due 10", "Failed 10 Node 0 Attempt 1 WhyBeat", false}, {lag + "; Beaten 4 Node 0 Attempt 1 Token 1 Due 10", "Failed 10 Node 1 Attempt 1 WhyClosed", true}, {lag + "; Beaten 4 Node 0 Attempt 1 Token 1 Due 10", "Failed 10 Node 1 Attempt 1 WhyBeat", false},
		{lag + "; Beaten 4 Node 0 Attempt 1 Token 1 Due 10; Failed 10 Node 1 Attempt 1 WhyClosed; Backoff 10 Node 1 Attempt 1 Due 14", "Failed 10 Node 0 Attempt 1 WhyBeat", true},
	})
	// At the run's Due its deadline is first, whatever else is due then.
	end := with(pair(), func(n *api.Node) { n.Close, n.Beat, n.Base, n.Cap = 200, 200, 200, 200 })
	d := at(t, "P16.2", end, both+"; Leased 3 Node 0 Attempt 1 Token 1 Due 100; Leased 3 Node 1 Attempt 1 Token 2 Due 100; Failed 3 Node 1 Attempt 1 WhyTold; Backoff 3 Node 1 Attempt 1 Due 100")
	d.refuses(storyOf("Failed 100 Node 0 Attempt 1 WhyClosed; Failed 100 Node 0 Attempt 1 WhyBeat; Ready 100 Node 1")...)
	d.takes(storyOf("Dead 100 Node 0 Attempt 1 WhyDeadline; Dead 100 Node 1 Attempt 1 WhyDeadline; Ended 100 RunExpired")...)
}

// P16.2: a timer must come, whatever comes ahead of it: no note passes by it.
func TestNothingPassesByATimer(t *testing.T) {
	for _, next := range []string{"Leased 14 Node 1 Attempt 1 Token 6 Due 24", "Dead 14 Node 0 Attempt 1 WhyCancelled", "Dead 100 Node 0 Attempt 1 WhyDeadline", "Failed 14 Node 0 Attempt 1 WhyTold", "Leased 13 Node 1 Attempt 1 Token 6 Due 23"} {
		goThrough(t, "P16.2", pair(), []row{{both + "; Leased 3 Node 0 Attempt 1 Token 5 Due 13", next, false}})
	}
	goThrough(t, "P16.2", pair(), []row{{both + "; Leased 3 Node 0 Attempt 1 Token 5 Due 13", "Leased 12 Node 1 Attempt 1 Token 6 Due 22", true}})
}

// P16.3: Run and Ended behind each note of a story, told by hand: state, attempts and token of both nodes, the status, the end.
func TestRunBehindEachNote(t *testing.T) {
	for _, story := range [][][2]string{
		{
			{"Submitted 2 Due 102", "live 0: ready 0 0, waiting 0 0"}, {"Ready 2 Node 0", "live 0: ready 0 0, waiting 0 0"}, {"Leased 3 Node 0 Attempt 1 Token 5 Due 13", "live 0: leased 1 5, waiting 0 0"},
			{"Failed 13 Node 0 Attempt 1 WhyClosed", "live 0: backoff 1 0, waiting 0 0"}, {"Backoff 13 Node 0 Attempt 1 Due 17", "live 0: backoff 1 0, waiting 0 0"}, {"Ready 17 Node 0", "live 0: ready 1 0, waiting 0 0"},
			{"Leased 20 Node 0 Attempt 2 Token 7 Due 30", "live 0: leased 2 7, waiting 0 0"}, {"Done 21 Node 0 Attempt 2", "live 0: done 2 0, ready 0 0"}, {"Ready 21 Node 1", "live 0: done 2 0, ready 0 0"}, {"Leased 22 Node 1 Attempt 1 Token 8 Due 32", "live 0: done 2 0, leased 1 8"},
			{"Done 23 Node 1 Attempt 1", "succeeded 23: done 2 0, done 1 0"}, {"Ended 23 RunSucceeded", "succeeded 23: done 2 0, done 1 0, told"}, {"Forgotten 40", "succeeded 23: done 2 0, done 1 0, told"},
		}, {
			{"Submitted 2 Due 102", "live 0: ready 0 0, waiting 0 0"}, {"Ready 2 Node 0", "live 0: ready 0 0, waiting 0 0"}, {"Leased 3 Node 0 Attempt 1 Token 5 Due 13", "live 0: leased 1 5, waiting 0 0"}, {"Failed 4 Node 0 Attempt 1 WhyTold", "live 0: backoff 1 0, waiting 0 0"}, {"Backoff 4 Node 0 Attempt 1 Due 8", "live 0: backoff 1 0, waiting 0 0"}, {"Ready 8 Node 0", "live 0: ready 1 0, waiting 0 0"}, {"Leased 8 Node 0 Attempt 2 Token 6 Due 18", "live 0: leased 2 6, waiting 0 0"},
			{"Failed 18 Node 0 Attempt 2 WhyClosed", "failed 18: dead 2 0, skipped 0 0"}, {"Dead 18 Node 0 Attempt 2 WhyBudget", "failed 18: dead 2 0, skipped 0 0"}, {"Skipped 18 Node 1", "failed 18: dead 2 0, skipped 0 0"}, {"Ended 18 RunFailed", "failed 18: dead 2 0, skipped 0 0, told"},
		}, {
			{"Submitted 2 Due 102", "live 0: ready 0 0, waiting 0 0"}, {"Ready 2 Node 0", "live 0: ready 0 0, waiting 0 0"}, {"Leased 95 Node 0 Attempt 1 Token 5 Due 102", "live 0: leased 1 5, waiting 0 0"},
			{"Dead 102 Node 0 Attempt 1 WhyDeadline", "expired 102: dead 1 0, skipped 0 0"}, {"Skipped 102 Node 1", "expired 102: dead 1 0, skipped 0 0"}, {"Ended 102 RunExpired", "expired 102: dead 1 0, skipped 0 0, told"}, {"Forgotten 102", "expired 102: dead 1 0, skipped 0 0, told"},
		}, {
			{"Submitted 2 Due 102", "live 0: ready 0 0, waiting 0 0"}, {"Ready 2 Node 0", "live 0: ready 0 0, waiting 0 0"},
			{"Dead 2 Node 0 WhyCancelled", "cancelled 2: dead 0 0, skipped 0 0"}, {"Skipped 2 Node 1", "cancelled 2: dead 0 0, skipped 0 0"}, {"Ended 2 RunCancelled", "cancelled 2: dead 0 0, skipped 0 0, told"},
		},
	} {
		d := begin(t, "P16.3", 9, line())
		if got := told(d.b.Run()); got != told(api.RunState{ID: 9, Plan: line()}) || d.b.Ended() {
			t.Errorf("P16.3: ahead of the first note: %s", got)
		}
		for _, x := range story {
			n := noteOf(x[0])
			n.Run = 9
			d.takes(n)
			s := d.b.Run()
			if s.ID != 9 || s.Key != "" || s.Submitted != 2 || told(s.Plan) != told(line()) || brief(s, d.b.Ended()) != x[1] {
				t.Errorf("P16.3: %s: %+v, which is %s; want %s", d.story(), s, brief(s, d.b.Ended()), x[1])
			}
		}
	}
}

// brief tells a run in a few words.
func brief(s api.RunState, ended bool) string {
	states := strings.Fields("none waiting ready leased backoff done dead skipped")
	text := fmt.Sprint(strings.Fields("none live succeeded failed cancelled expired")[s.Status], " ", s.Ended, ":")
	for i, n := range s.Nodes {
		if i > 0 {
			text += ","
		}
		text += fmt.Sprintf(" %s %d %d", states[n.State], n.Attempts, n.Token)
		if n.Worker != 0 || len(n.Result) > 0 {
			text += " with a worker or a result"
		}
	}
	if ended {
		text += ", told"
	}
	return text
}

// P16.2: what is refused changes nothing: a book that was asked for all that may not come goes on as one that was not.
func TestRefused(t *testing.T) {
	t.Parallel()
	r := chance(2)
	for range 60 {
		d := begin(t, "P16.2", 1+r.Intn(9), anyPlan(r, 1+r.Intn(4)))
		for range 25 {
			d.probe()
			n, ok := d.anyNext(r)
			if !ok {
				break
			}
			d.takes(n)
		}
	}
}

// P16.2: all notes within a small box are tried, behind each note of some stories.
func TestAllNotes(t *testing.T) {
	t.Parallel()
	p := until(with(line(), func(n *api.Node) { n.Close, n.Beat, n.Base, n.Cap, n.Jitter = 2, 2, 1, 1, 1 }), 4)
	for _, story := range []string{
		"Submitted 0 Due 4; Ready 0 Node 0; Leased 0 Node 0 Attempt 1 Token 1 Due 2; Beaten 1 Node 0 Attempt 1 Token 1 Due 3; Failed 2 Node 0 Attempt 1 WhyClosed; Backoff 2 Node 0 Attempt 1 Due 3; Ready 3 Node 0; Leased 3 Node 0 Attempt 2 Token 2 Due 4; Done 3 Node 0 Attempt 2; Ready 3 Node 1; Dead 4 Node 1 WhyDeadline; Ended 4 RunExpired; Forgotten 4",
		"Submitted 0 Due 4; Ready 0 Node 0; Leased 0 Node 0 Attempt 1 Token 1 Due 2; Failed 1 Node 0 Attempt 1 WhyTold; Backoff 1 Node 0 Attempt 1 Due 2; Ready 2 Node 0; Leased 2 Node 0 Attempt 2 Token 3 Due 4; Failed 2 Node 0 Attempt 2 WhyTold; Dead 2 Node 0 Attempt 2 WhyBudget; Skipped 2 Node 1; Ended 2 RunFailed",
		"Submitted 0 Due 4; Ready 0 Node 0; Leased 1 Node 0 Attempt 1 Token 1 Due 3; Done 2 Node 0 Attempt 1; Ready 2 Node 1; Leased 2 Node 1 Attempt 1 Token 2 Due 4; Done 3 Node 1 Attempt 1; Ended 3 RunSucceeded",
	} {
		d := begin(t, "P16.2", 1, p)
		for _, n := range append(storyOf(story), api.Note{}) {
			d.box()
			if n.Kind != 0 {
				d.takes(n)
			}
		}
	}
}

// box tries all notes whose fields are within a few numbers; those that may come are tried on a book of their own.
func (d *desk) box() {
	d.t.Helper()
	for time := -1; time <= 6; time++ {
		options := d.m.options(time)
		for kind := 0; kind <= 12; kind++ {
			for node := -1; node <= 2; node++ {
				for attempt := 0; attempt <= 3; attempt++ {
					for token := 0; token <= 3; token++ {
						for due := 0; due <= 5; due++ {
							for why := 0; why <= 7; why++ {
								d.boxed(options, api.Note{Kind: kind, Time: time, Run: 1, Node: node, Attempt: attempt, Token: token, Due: due, Why: why})
							}
						}
					}
				}
			}
		}
	}
	d.stands()
}

func (d *desk) boxed(options []option, n api.Note) {
	for _, o := range options {
		if o.has(n) {
			d.fork().takes(n)
			return
		}
	}
	if code := d.b.Add(n); code == api.OK {
		d.t.Fatalf("P16.2: %s: then %s is taken", d.story(), textOf(n))
	}
}
