package history

import (
	"math"
	"math/rand"
	"runtime"
	"slices"
	"sync"
	"testing"
	"time"

	"escapement/api"
)

// The promises P16.4 and P16.5.

// P16.4: the runs' numbers, rising, each once, and for each its notes, whole and in their order.
func TestSplit(t *testing.T) {
	n := func(run, time int) api.Note {
		return api.Note{Kind: 3, Time: time, Run: run, Node: 4, Attempt: 5, Token: 6, Due: 7, Why: 8}
	}
	for _, x := range []struct {
		notes []api.Note
		runs  []int
		lists [][]api.Note
	}{
		{nil, nil, nil},
		{[]api.Note{}, nil, nil},
		{[]api.Note{{}}, []int{0}, [][]api.Note{{{}}}},
		{[]api.Note{n(1, 9)}, []int{1}, [][]api.Note{{n(1, 9)}}},
		{[]api.Note{n(7, 3), n(2, 2), n(7, 1), n(7, 3)}, []int{2, 7}, [][]api.Note{{n(2, 2)}, {n(7, 3), n(7, 1), n(7, 3)}}},
		{[]api.Note{n(10, 1), n(9, 2), n(100, 3), n(-9, 4), n(-10, 5)}, []int{-10, -9, 9, 10, 100}, [][]api.Note{{n(-10, 5)}, {n(-9, 4)}, {n(9, 2)}, {n(10, 1)}, {n(100, 3)}}},
		{[]api.Note{n(math.MaxInt, 1), n(0, 2), n(math.MinInt, 3), n(-1, 4), n(1<<40+1, 5)}, []int{math.MinInt, -1, 0, 1<<40 + 1, math.MaxInt}, [][]api.Note{{n(math.MinInt, 3)}, {n(-1, 4)}, {n(0, 2)}, {n(1<<40+1, 5)}, {n(math.MaxInt, 1)}}},
	} {
		runs, lists := Split(x.notes)
		if !slices.Equal(runs, x.runs) || !sameLists(lists, x.lists) {
			t.Errorf("P16.4: Split(%v): %v, %v; want %v, %v", x.notes, runs, lists, x.runs, x.lists)
		}
	}
}

func sameLists(a, b [][]api.Note) bool {
	return slices.EqualFunc(a, b, func(x, y []api.Note) bool { return slices.Equal(x, y) })
}

func anyNotes(r *rand.Rand, most int) (notes []api.Note) {
	for range r.Intn(most + 1) {
		n := api.Note{Run: r.Intn(20) - 5}
		for i, field := range fields(&n) {
			if i != 2 {
				*field = r.Intn(9) - 2
			}
		}
		notes = append(notes, n)
	}
	return notes
}

// P16.4: notes by chance, beside a search for each number there is.
func TestSplitByChance(t *testing.T) {
	r := chance(3)
	for range 400 {
		notes := anyNotes(r, 80)
		var wantRuns []int
		var wantLists [][]api.Note
		for run := -5; run < 15; run++ {
			var list []api.Note
			for _, n := range notes {
				if n.Run == run {
					list = append(list, n)
				}
			}
			if len(list) > 0 {
				wantRuns, wantLists = append(wantRuns, run), append(wantLists, list)
			}
		}
		for range 3 {
			if runs, lists := Split(notes); !slices.Equal(runs, wantRuns) || !sameLists(lists, wantLists) {
				t.Fatalf("P16.4: Split(%v): %v, %v", notes, runs, lists)
			}
		}
	}
}

// R4: what Split is handed is neither changed nor kept, and its answers are new memory, which no two lists share.
func TestSplitMemory(t *testing.T) {
	r := chance(4)
	for range 50 {
		notes := append(anyNotes(r, 60), api.Note{Run: 1}, api.Note{Run: 2, Due: 77})
		notes = notes[:len(notes)-1]
		whole := slices.Clone(notes[:cap(notes)])
		runs, lists := Split(notes)
		wantRuns, wantLists := Split(slices.Clone(notes))
		if !slices.Equal(notes[:cap(notes)], whole) {
			t.Fatal("R4: Split has changed what it was handed")
		}
		for i, n := range notes[:cap(notes)] {
			n.Time, n.Run = 99, 99
			notes[:cap(notes)][i] = n
		}
		if !slices.Equal(runs, wantRuns) || !sameLists(lists, wantLists) {
			t.Fatal("R4: Split answers what it was handed")
		}
		for i := range lists {
			room := lists[i][:cap(lists[i])]
			for j := range room {
				room[j] = api.Note{Kind: 99}
			}
			wantLists[i] = slices.Repeat([]api.Note{{Kind: 99}}, len(lists[i]))
			if !sameLists(lists, wantLists) {
				t.Fatal("R4: two lists that Split answers share memory")
			}
		}
	}
}

// P16.5: as many workers as may be, and no others; whatever stories there are.
func TestAuditWorkers(t *testing.T) {
	for _, list := range [][]api.Story{nil, {}, stories(), {{}}, {{Run: -1}}} {
		for _, workers := range []int{math.MinInt, -16, -1, 0, 17, 18, 1 << 32, 1<<32 + 1, math.MaxInt} {
			if v, code := Audit(list, workers); code != api.ErrArg || len(v) > 0 {
				t.Errorf("P16.5: %d workers: %v, %d", workers, v, code)
			}
		}
		for workers := 1; workers <= 16; workers++ {
			if v, code := Audit(list, workers); code != api.OK || len(v) != len(list) {
				t.Errorf("P16.5: %d workers: %v, %d", workers, v, code)
			}
		}
	}
}

// P16.5: verdicts by hand.
func TestVerdicts(t *testing.T) {
	whole := storyOf(begun + "; Dead 5 Node 0 WhyCancelled; Skipped 5 Node 1; Ended 5 RunCancelled; Forgotten 7")
	rest := append(slices.Clone(whole), noteOf("Forgotten 7"))
	for i, x := range []struct {
		story api.Story
		place int
		code  api.Errno
	}{
		{api.Story{Run: 1, Plan: line()}, 0, api.OK},
		{api.Story{Run: 1, Plan: line(), Notes: []api.Note{}}, 0, api.OK},
		{api.Story{Run: 1, Plan: line(), Notes: whole}, 0, api.OK},
		{api.Story{Run: 1, Plan: line(), Notes: whole[:3]}, 0, api.OK},
		{api.Story{Run: 1, Plan: line(), Notes: rest}, 7, api.ErrHistoryRest},
		{api.Story{Run: 1, Plan: line(), Notes: append(slices.Clone(rest), api.Note{Kind: 77})}, 7, api.ErrHistoryRest},
		{api.Story{Run: 2, Plan: line(), Notes: whole}, 1, api.ErrHistoryNote},
		{api.Story{Run: 1, Plan: until(line(), 99), Notes: whole}, 1, api.ErrHistoryNote},
		{api.Story{Run: 1, Plan: pair(), Notes: whole}, 3, api.ErrHistoryNote},
		{api.Story{Run: 1, Plan: line(), Notes: whole[1:]}, 1, api.ErrHistoryNote},
		{api.Story{Run: 1, Plan: line(), Notes: append(slices.Clone(whole[:3]), whole[4:]...)}, 4, api.ErrHistoryNote},
		{api.Story{Run: 1, Plan: line(), Notes: append(slices.Clone(whole[:5]), noteOf("Ready 5 Node 0"), noteOf("Forgotten 7"), noteOf("Forgotten 7"))}, 6, api.ErrHistoryNote},
		{api.Story{Run: 0, Plan: line(), Notes: whole}, 0, api.ErrArg},
		{api.Story{Run: -7, Plan: api.Plan{}}, 0, api.ErrArg},
		{api.Story{Run: 1<<40 + 1, Plan: line()}, 0, api.ErrArg},
		{api.Story{Run: 1 << 40, Plan: line()}, 0, api.OK},
		{api.Story{Run: 1, Notes: whole}, 0, api.ErrHistoryPlan},
		{api.Story{Run: 5, Plan: of()}, 0, api.ErrHistoryPlan},
	} {
		want := api.Verdict{Run: x.story.Run, Place: x.place, Code: x.code}
		if v, code := Audit([]api.Story{x.story}, 1+i%16); code != api.OK || len(v) != 1 || v[0] != want {
			t.Errorf("P16.5: %d: %+v, %d; want %+v", i, v, code, want)
		}
	}
	for _, p := range refusedPlans() {
		if v, code := Audit([]api.Story{{Run: 4, Plan: p, Notes: whole}}, 3); code != api.OK || len(v) != 1 || v[0] != (api.Verdict{Run: 4, Code: api.ErrHistoryPlan}) {
			t.Errorf("P16.5: %+v: %+v, %d", p, v, code)
		}
	}
}

// P16.5: the place of the first note that is refused, at each place of each story, whatever comes behind it.
func TestPlaces(t *testing.T) {
	for _, s := range stories() {
		var list []api.Story
		var want []api.Verdict
		for i := range s.Notes {
			for _, turn := range []func(n *api.Note){func(n *api.Note) { n.Run++ }, func(n *api.Note) { n.Kind = 12 }, func(n *api.Note) { n.Attempt-- }, func(n *api.Note) { n.Time = -1 }} {
				bad := s
				bad.Notes = slices.Clone(s.Notes)
				turn(&bad.Notes[i])
				list, want = append(list, bad), append(want, api.Verdict{Run: s.Run, Place: i + 1, Code: api.ErrHistoryNote})
			}
		}
		if got, code := Audit(list, 5); code != api.OK || !slices.Equal(got, want) {
			t.Errorf("P16.5: %+v, %d; want %+v", got, code, want)
		}
	}
}

// meant is the verdict on a story, as the model has it.
func meant(s api.Story) api.Verdict {
	v := api.Verdict{Run: s.Run}
	if s.Run < 1 || s.Run > 1<<40 {
		v.Code = api.ErrArg
		return v
	}
	if len(s.Plan.Nodes) == 0 {
		v.Code = api.ErrHistoryPlan
		return v
	}
	m := newModel(s.Run, s.Plan)
	for i, n := range s.Notes {
		if code := m.add(n); code != api.OK {
			v.Place, v.Code = i+1, code
			return v
		}
	}
	return v
}

// anyStory is a story by chance; some have a note that was turned, some a number or a plan that may not be.
func anyStory(t *testing.T, r *rand.Rand) api.Story {
	d := begin(t, "P16.5", 1+r.Intn(99), anyPlan(r, 1+r.Intn(5)))
	course(r, d, r.Intn(50))
	s := api.Story{Run: d.m.id, Plan: d.m.p, Notes: d.notes}
	switch r.Intn(6) {
	case 0:
		s.Run = []int{0, -1, 1<<40 + 1}[r.Intn(3)]
	case 1:
		s.Plan.Nodes = nil
	case 2, 3:
		if len(s.Notes) > 0 {
			list := turned(s.Notes[r.Intn(len(s.Notes))])
			s.Notes[r.Intn(len(s.Notes))] = list[r.Intn(len(list))]
		}
	}
	return s
}

// P16.5, R5: stories by chance, by each number of workers, with few stories and with many: a verdict for each, in order.
func TestAuditByChance(t *testing.T) {
	t.Parallel()
	r := chance(5)
	var list []api.Story
	var want []api.Verdict
	codes := map[api.Errno]int{}
	for range 300 {
		s := anyStory(t, r)
		v := meant(s)
		list, want = append(list, s), append(want, v)
		codes[v.Code]++
	}
	for workers := 1; workers <= 16; workers++ {
		for _, count := range []int{1, 2, workers - 1, workers, workers + 1, 100, 300} {
			if got, code := Audit(list[:count], workers); code != api.OK || !slices.Equal(got, want[:count]) {
				t.Fatalf("P16.5: %d stories by %d workers: %+v, %d; want %+v", count, workers, got, code, want[:count])
			}
		}
	}
	if codes[api.OK] < 50 || codes[api.ErrHistoryNote] < 30 || codes[api.ErrArg] < 20 || codes[api.ErrHistoryPlan] < 20 {
		t.Errorf("these verdicts came: %v", codes)
	}
}

// R5: all goroutines have ended when Audit answers. (One that has told so may take a moment still to be counted no more.)
func TestNobodyIsLeft(t *testing.T) {
	ahead := runtime.NumGoroutine()
	for workers := 1; workers <= 16; workers++ {
		Audit(nil, workers)
		Audit(stories(), workers)
		Audit(nil, workers+16)
	}
	for wait := 0; runtime.NumGoroutine() > ahead; wait++ {
		if wait > 1000 {
			t.Fatalf("R5: %d goroutines are left, there were %d", runtime.NumGoroutine(), ahead)
		}
		time.Sleep(time.Millisecond)
	}
}

// R5: audits and splits side by side, of the same stories and notes.
func TestAuditsSideBySide(t *testing.T) {
	list := append(stories(), api.Story{Run: 0}, api.Story{Run: 3})
	want, _ := Audit(list, 1)
	var notes []api.Note
	for i, s := range list {
		for _, n := range s.Notes {
			n.Run = i
			notes = append(notes, n)
		}
	}
	runs, lists := Split(notes)
	var all sync.WaitGroup
	for i := range 12 {
		all.Go(func() {
			for range 20 {
				if got, code := Audit(list, 1+i); code != api.OK || !slices.Equal(got, want) {
					t.Errorf("R5: %+v, %d; want %+v", got, code, want)
				}
				if r, l := Split(notes); !slices.Equal(r, runs) || !sameLists(l, lists) {
					t.Errorf("R5: %v, %v", r, l)
				}
			}
		})
	}
	all.Wait()
}
