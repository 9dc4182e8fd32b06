package history

import (
	"fmt"
	"math/rand"
	"slices"
	"strings"
	"sync"
	"testing"
	"unsafe"

	"escapement/api"
	"escapement/engine"
	"escapement/pace"
)

// What follows, P16.6: what engines tell is taken, and nothing else; the rules of what is taken; whose the memory is; chance.

// shop is an engine, and a book for each run that it was told.
type shop struct {
	t     *testing.T
	e     *engine.Engine
	books map[int]*Book
	tales map[int]*api.Story
}

func newShop(t *testing.T) *shop {
	return &shop{t: t, e: engine.New(), books: map[int]*Book{}, tales: map[int]*api.Story{}}
}

// do tells the engine an operation, and the books what came of it.
func (x *shop) do(o api.Op) api.Answer {
	x.t.Helper()
	a := x.e.Do(o)
	if o.Kind == api.OpSubmit && a.Code == api.OK && !a.Again {
		x.tales[a.Run] = &api.Story{Run: a.Run, Plan: o.Plan}
		x.books[a.Run], _ = New(a.Run, o.Plan)
	}
	runs, lists := Split(a.Notes)
	for i, id := range runs {
		tale := x.tales[id]
		for _, n := range lists[i] {
			if code := x.books[id].Add(n); code != api.OK {
				x.t.Fatalf("P16.6: %+v: %s: then %s: %d", tale.Plan, textsOf(tale.Notes), textOf(n), code)
			}
			tale.Notes = append(tale.Notes, n)
		}
	}
	return a
}

// agrees holds each book against what the engine tells of its run.
func (x *shop) agrees() {
	x.t.Helper()
	for id, b := range x.books {
		want, code := x.e.Run(id)
		if code != api.OK {
			continue
		}
		want.Key = ""
		for i := range want.Nodes {
			want.Nodes[i].Worker, want.Nodes[i].Result = 0, nil
		}
		if got := b.Run(); told(got) != told(want) || b.Ended() != (want.Status != api.RunLive) {
			x.t.Fatalf("P16.6: %s: Run is %+v; the engine tells %+v", textsOf(x.tales[id].Notes), got, want)
		}
	}
}

// anyOp is an operation by chance, more often one that is let pass.
func (x *shop) anyOp(r *rand.Rand) api.Op {
	s := x.e.State()
	var tokens []int
	for _, run := range s.Runs {
		for _, n := range run.Nodes {
			if n.Token > 0 {
				tokens = append(tokens, n.Token)
			}
		}
	}
	token := 1 + r.Intn(s.NextToken)
	if len(tokens) > 0 && r.Intn(8) > 0 {
		token = tokens[r.Intn(len(tokens))]
	}
	switch r.Intn(20) {
	case 0, 1:
		return api.Op{Kind: api.OpSubmit, Plan: anyPlan(r, 1+r.Intn(6)), Key: []string{"", "", "k"}[r.Intn(3)]}
	case 2:
		return api.Op{Kind: []int{api.OpCancel, api.OpForget, api.OpForget}[r.Intn(3)], Run: 1 + r.Intn(s.NextRun)}
	case 3:
		return api.Op{Kind: api.OpDraw, Luck: r.Uint64()}
	case 4, 5, 6:
		return api.Op{Kind: api.OpComplete, Token: token, Result: []byte("r")}
	case 7, 8:
		return api.Op{Kind: api.OpFail, Token: token}
	case 9, 10:
		return api.Op{Kind: api.OpBeat, Token: token}
	case 11, 12, 13:
		ticks := r.Intn(6)
		if len(s.Timers) > 0 && r.Intn(2) == 0 {
			ticks = s.Timers[0].Due - s.Now
		}
		return api.Op{Kind: api.OpTick, Ticks: ticks}
	}
	return api.Op{Kind: api.OpPoll, Lane: r.Intn(3), Worker: 1 + r.Intn(9)}
}

// P16.6, W10: what an engine has told of a run is all taken, and Run is what the engine tells of it; so too if the engine is taken anew from its state, or is a copy.
func TestEngines(t *testing.T) {
	t.Parallel()
	r := chance(6)
	kinds, whys, ends := map[int]int{}, map[int]int{}, map[int]int{}
	for range 40 {
		x := newShop(t)
		if r.Intn(4) == 0 {
			x.do(api.Op{Kind: api.OpTick, Ticks: 1<<62 - r.Intn(300)})
		}
		for range 250 {
			x.do(x.anyOp(r))
			x.agrees()
			switch r.Intn(20) {
			case 0:
				x.e, _ = engine.From(x.e.State())
			case 1:
				x.e = x.e.Copy()
			}
		}
		var list []api.Story
		for _, tale := range x.tales {
			list = append(list, *tale)
			holds(t, *tale)
			for _, n := range tale.Notes {
				kinds[n.Kind]++
				if n.Kind == api.NoteEnded {
					ends[n.Why]++
				} else {
					whys[n.Why]++
				}
			}
		}
		verdicts, code := Audit(list, 4)
		for i, v := range verdicts {
			if v != (api.Verdict{Run: list[i].Run}) || code != api.OK {
				t.Fatalf("W10: %+v: %+v", list[i], v)
			}
		}
	}
	if len(kinds) != 11 || len(whys) != 7 || len(ends) != 4 {
		t.Errorf("these kinds of notes, whys and ends came up alone: %v, %v, %v", kinds, whys, ends)
	}
}

// lanesApart is a plan each node of which has a lane of its own, so that any ready node can be handed out, with jitters that are soon drawn.
func lanesApart(p api.Plan) api.Plan {
	p.Nodes = slices.Clone(p.Nodes)
	for i := range p.Nodes {
		p.Nodes[i].Lane = i
		p.Nodes[i].Jitter %= 3
	}
	return p
}

// teller lets an engine tell a story: it finds the operations, and the luck, that lead to it.
type teller struct {
	t     *testing.T
	e     *engine.Engine
	story api.Story
	luck  uint64
	told  []api.Note
}

func (x *teller) do(o api.Op) {
	x.t.Helper()
	a := x.e.Do(o)
	x.told = append(x.told, a.Notes...)
	if a.Code != api.OK || !slices.Equal(x.told[:min(len(x.told), len(x.story.Notes))], x.story.Notes[:min(len(x.told), len(x.story.Notes))]) {
		x.t.Fatalf("P16.6: %+v: a book takes %s; an engine tells %s (%d)", x.story.Plan, textsOf(x.story.Notes), textsOf(x.told), a.Code)
	}
}

// isDrawn tells whether with this luck backoffs that begin at a time end as the story tells.
func (x *teller) isDrawn(luck uint64, time int) bool {
	due := x.story.Notes[0].Due
	for _, n := range x.story.Notes[len(x.told):] {
		if n.Time > time {
			return true
		}
		if n.Kind != api.NoteBackoff {
			continue
		}
		wait, _ := pace.Wait(x.story.Plan.Nodes[n.Node], luck, n.Run, n.Node, n.Attempt)
		if min(n.Time+wait, due) != n.Due {
			return false
		}
	}
	return true
}

// draw turns the luck till it fits.
func (x *teller) draw(time int) {
	x.t.Helper()
	for draw := range uint64(1 << 20) {
		if luck := pace.Mix(x.luck, draw); x.isDrawn(luck, time) {
			x.do(api.Op{Kind: api.OpDraw, Luck: draw})
			x.luck = luck
			return
		}
	}
	x.t.Fatalf("no luck for %s", textsOf(x.story.Notes))
}

// tell lets the engine tell what comes next in the story.
func (x *teller) tell(token map[int]int) {
	x.t.Helper()
	n := x.story.Notes[len(x.told)]
	tick := func(to int) { x.do(api.Op{Kind: api.OpTick, Ticks: to - x.e.Now()}) }
	op := api.Op{Kind: api.OpTick, Ticks: 1}
	switch {
	case n.Kind == api.NoteSubmitted:
		op = api.Op{Kind: api.OpSubmit, Plan: x.story.Plan}
	case n.Kind == api.NoteLeased:
		op = api.Op{Kind: api.OpPoll, Lane: n.Node}
		token[n.Node] = n.Token
	case n.Kind == api.NoteBeaten:
		op = api.Op{Kind: api.OpBeat, Token: token[n.Node]}
	case n.Kind == api.NoteDone:
		op = api.Op{Kind: api.OpComplete, Token: token[n.Node]}
	case n.Kind == api.NoteFailed && n.Why == api.WhyTold:
		op = api.Op{Kind: api.OpFail, Token: token[n.Node]}
	case n.Kind == api.NoteDead && n.Why == api.WhyCancelled:
		op = api.Op{Kind: api.OpCancel, Run: n.Run}
	case n.Kind == api.NoteForgotten:
		op = api.Op{Kind: api.OpForget, Run: n.Run}
	default:
		tick(n.Time - 1)
		x.draw(n.Time)
		x.do(op)
		return
	}
	tick(n.Time)
	if op.Kind == api.OpFail {
		x.drawOne(len(x.told) + 1)
	}
	x.do(op)
}

// drawOne draws for the one backoff that stands at a place of the story, if it does.
func (x *teller) drawOne(place int) {
	x.t.Helper()
	if place >= len(x.story.Notes) || x.story.Notes[place].Kind != api.NoteBackoff {
		return
	}
	whole := x.story.Notes
	x.story.Notes = whole[:place+1]
	x.draw(whole[place].Time)
	x.story.Notes = whole
}

// P16.6: what a book takes an engine can tell: it is found how.
func TestEnginesTellIt(t *testing.T) {
	t.Parallel()
	r := chance(7)
	ends := map[int]int{}
	for range 500 {
		d := begin(t, "P16.2", 1, lanesApart(anyPlan(r, 1+r.Intn(5))))
		for range r.Intn(80) {
			n, ok := d.anyNext(r)
			if !ok {
				break
			}
			if n.Kind == api.NoteLeased {
				n.Token = d.m.token + 1 // as an engine gives them that has one run
			}
			d.takes(n)
		}
		x := &teller{t: t, e: engine.New(), story: api.Story{Run: 1, Plan: d.m.p, Notes: d.notes}}
		for tokens := map[int]int{}; len(x.told) < len(d.notes); {
			x.tell(tokens)
		}
		ends[d.m.status]++
	}
	for status := live; status <= expired; status++ {
		if ends[status] < 10 {
			t.Errorf("too few ways: %v", ends)
		}
	}
}

// treeOfBook are all stories of run 1 of so many notes at most, up to a time, that a book takes, if the run is submitted at 0 or 1 and a token is always one more than the last; each is told as a text.
func treeOfBook(t *testing.T, p api.Plan, notes, time int) map[string]bool {
	seen := map[string]bool{}
	var grow func(ahead []api.Note)
	grow = func(ahead []api.Note) {
		b := bookOf(t, p, ahead)
		for _, n := range candidates(p, ahead, time) {
			if b.Add(n) != api.OK {
				continue
			}
			next := append(slices.Clone(ahead), n)
			if text := textsOf(next); !seen[text] {
				seen[text] = true
				if len(next) < notes {
					grow(next)
				}
			}
			b = bookOf(t, p, ahead)
		}
	}
	grow(nil)
	return seen
}

func bookOf(t *testing.T, p api.Plan, notes []api.Note) *Book {
	t.Helper()
	b, _ := New(1, p)
	for _, n := range notes {
		if code := b.Add(n); code != api.OK {
			t.Fatalf("P16.6: a beginning of %s is not taken: %d", textsOf(notes), code)
		}
	}
	return b
}

// candidates are all notes whose used fields are within a few numbers.
func candidates(p api.Plan, ahead []api.Note, time int) (list []api.Note) {
	token, from := 1, 0
	for _, n := range ahead {
		from = n.Time
		if n.Kind == api.NoteLeased {
			token = n.Token + 1
		}
	}
	upTo := func(kind int, field string, most int) int {
		if strings.Contains(uses(kind), field) {
			return most
		}
		return 0
	}
	for kind := 1; kind <= 11; kind++ {
		for at := from; at <= time && (kind != api.NoteSubmitted || at <= 1); at++ {
			for node := 0; node <= upTo(kind, "Node", len(p.Nodes)-1); node++ {
				for attempt := 0; attempt <= upTo(kind, "Attempt", 3); attempt++ {
					for by := min(1, upTo(kind, "Token", token)); by <= upTo(kind, "Token", token); by++ {
						for due := 0; due <= upTo(kind, "Due", p.Deadline+2); due++ {
							for why := 0; why <= upTo(kind, "Why", 6); why++ {
								list = append(list, api.Note{Kind: kind, Time: at, Run: 1, Node: node, Attempt: attempt, Token: by, Due: due, Why: why})
							}
						}
					}
				}
			}
		}
	}
	return list
}

// draws are such that all waits come that the plan's jitters let come.
func draws(p api.Plan) (list []uint64) {
	seen := map[string]bool{}
	for draw := range uint64(200) {
		text := ""
		for i, n := range p.Nodes {
			for attempt := 1; attempt < n.Budget; attempt++ {
				jitter, _ := pace.Jitter(pace.Mix(0, draw), 1, i, attempt, n.Jitter)
				text += fmt.Sprint(jitter, " ")
			}
		}
		if !seen[text] {
			seen[text] = true
			list = append(list, draw)
		}
	}
	return list
}

// treeOfEngine are all that an engine tells by whatever operations, beginnings of what one operation tells too.
func treeOfEngine(p api.Plan, notes, time int) map[string]bool {
	seen, been := map[string]bool{}, map[string]bool{}
	var grow func(e *engine.Engine, ahead []api.Note, draw uint64)
	grow = func(e *engine.Engine, ahead []api.Note, draw uint64) {
		key := fmt.Sprint(draw, e.Now(), textsOf(ahead))
		if been[key] || len(ahead) >= notes {
			return
		}
		been[key] = true
		ops := []api.Op{{Kind: api.OpSubmit, Plan: p, Key: "k"}, {Kind: api.OpCancel, Run: 1}, {Kind: api.OpForget, Run: 1}}
		if len(ahead) > 0 || e.Now() > 1 {
			ops = ops[1:]
		}
		if e.Now() < time {
			ops = append(ops, api.Op{Kind: api.OpTick, Ticks: 1})
		}
		for i := range p.Nodes {
			ops = append(ops, api.Op{Kind: api.OpPoll, Lane: i})
		}
		for token := range e.State().NextToken {
			ops = append(ops, api.Op{Kind: api.OpBeat, Token: token}, api.Op{Kind: api.OpComplete, Token: token}, api.Op{Kind: api.OpFail, Token: token})
		}
		for _, o := range ops {
			c := e.Copy()
			a := c.Do(o)
			next := slices.Clone(ahead)
			for _, n := range a.Notes {
				if next = append(next, n); len(next) <= notes {
					seen[textsOf(next)] = true
				}
			}
			if a.Code == api.OK {
				grow(c, next, draw)
			}
		}
	}
	for _, draw := range draws(p) {
		e := engine.New()
		e.Do(api.Op{Kind: api.OpDraw, Luck: draw})
		grow(e, nil, draw)
	}
	return seen
}

// P16.2, P16.6: of small plans, all short stories that a book takes are just those that engines tell, and beginnings of these.
func TestAllStories(t *testing.T) {
	t.Parallel()
	for i, x := range []struct {
		p           api.Plan
		notes, time int
	}{
		{until(of(api.Node{Name: "a", Budget: 3, Close: 2, Beat: 1, Base: 1, Cap: 2, Jitter: 1}), 4), 9, 5},
		{until(of(api.Node{Name: "a", Budget: 2, Close: 1, Base: 1, Cap: 1}, api.Node{Name: "b", Lane: 1, Budget: 1, Close: 2, Beat: 2, Base: 1, Cap: 1, Needs: []int{0}}), 3), 9, 3},
		{until(of(api.Node{Name: "a", Budget: 1, Close: 2, Base: 1, Cap: 1}, api.Node{Name: "b", Lane: 1, Budget: 2, Close: 1, Beat: 1, Base: 1, Cap: 1}), 3), 8, 3},
		{until(of(api.Node{Name: "a", Budget: 1, Close: 1, Base: 1, Cap: 1, After: []int{1}}, api.Node{Name: "b", Lane: 1, Budget: 1, Close: 2, Base: 1, Cap: 1}), 2), 10, 3},
	} {
		taken, might := treeOfBook(t, x.p, x.notes, x.time), treeOfEngine(x.p, x.notes, x.time)
		for text := range taken {
			if !might[text] {
				t.Fatalf("P16.2: %+v: a book takes %s, but no engine tells it", x.p, text)
			}
		}
		for text := range might {
			if !taken[text] {
				t.Fatalf("P16.6: %+v: an engine tells %s, but a book does not take it", x.p, text)
			}
		}
		t.Logf("plan %d: %d stories", i, len(taken))
		if len(taken) < 100 {
			t.Errorf("plan %d: only %d stories", i, len(taken))
		}
	}
}

// holds asks of a story that was taken what P16.6 says, by the notes alone.
func holds(t *testing.T, s api.Story) {
	t.Helper()
	fault := func(i int, what string) {
		t.Helper()
		t.Fatalf("P16.6: %+v: %s: the note %d: %s", s.Plan, textsOf(s.Notes), i+1, what)
	}
	attempts, wakes, closes, isDone := map[int]int{}, map[int]int{}, map[int]int{}, map[int]bool{}
	for i, n := range s.Notes {
		if i > 0 && n.Time < s.Notes[i-1].Time {
			fault(i, "times fall")
		}
		if i > 0 && s.Notes[i-1].Kind == api.NoteEnded && n.Kind != api.NoteForgotten || i > 0 && s.Notes[i-1].Kind == api.NoteForgotten {
			fault(i, "it comes behind the end")
		}
		for node, close := range closes {
			if n.Time > close {
				fault(i, fmt.Sprint("the lease of ", node, " was to end"))
			}
		}
		switch n.Kind {
		case api.NoteLeased:
			if attempts[n.Node]++; n.Attempt != attempts[n.Node] || n.Attempt > s.Plan.Nodes[n.Node].Budget {
				fault(i, "the attempt")
			}
			for _, on := range s.Plan.Nodes[n.Node].Needs {
				if !isDone[on] {
					fault(i, "what it needs was not told done")
				}
			}
			if _, is := closes[n.Node]; is || n.Time < wakes[n.Node] {
				fault(i, "it is leased, or in backoff")
			}
			closes[n.Node] = n.Due
		case api.NoteDone, api.NoteFailed:
			if _, is := closes[n.Node]; !is {
				fault(i, "there is no lease")
			}
			delete(closes, n.Node)
			isDone[n.Node] = n.Kind == api.NoteDone
		case api.NoteBackoff:
			wakes[n.Node] = n.Due
		case api.NoteEnded:
			if n.Time > s.Notes[0].Due {
				fault(i, "the run was to end")
			}
			clear(closes)
		}
	}
}

// P16.2 to P16.6: stories by chance, beside the model; the rules hold in them, and each beginning is taken.
func TestCourses(t *testing.T) {
	t.Parallel()
	r := chance(8)
	ends := map[int]int{}
	for i := range 700 {
		nodes := 1 + r.Intn(6)
		if i%50 == 0 {
			nodes = 20 + r.Intn(45)
		}
		d := begin(t, "P16.2", 1+r.Intn(1<<40), anyPlan(r, nodes))
		course(r, d, 5+r.Intn(70))
		s := api.Story{Run: d.m.id, Plan: d.m.p, Notes: d.notes}
		holds(t, s)
		if i%10 == 0 {
			var beginnings []api.Story
			for k := range len(d.notes) + 1 {
				beginnings = append(beginnings, api.Story{Run: s.Run, Plan: s.Plan, Notes: d.notes[:k]})
			}
			verdicts, _ := Audit(beginnings, 8)
			for k, v := range verdicts {
				if v != (api.Verdict{Run: s.Run}) {
					t.Fatalf("P16.6: %s: its first %d notes: %+v", d.story(), k, v)
				}
			}
		}
		ends[d.m.status]++
	}
	for status := live; status <= expired; status++ {
		if ends[status] < 20 {
			t.Errorf("too few ways: %v", ends)
		}
	}
}

// P16.6: as many nodes and attempts as there can be, with the greatest numbers, up to the last time.
func TestGreatest(t *testing.T) {
	p := api.Plan{Name: "p", Deadline: 1 << 40}
	for i := range 64 {
		p.Nodes = append(p.Nodes, api.Node{Name: fmt.Sprint("n", i), Lane: i % 16, Budget: 100, Close: 1 << 40, Beat: 1 << 40, Base: 1, Cap: 1 << 30, Jitter: 1 << 20})
	}
	d := begin(t, "P16.6", 1<<40, p)
	x := newShop(t)
	x.e, _ = engine.From(api.State{Now: 1<<62 - 1<<40, Luck: 1<<64 - 1, NextRun: 1 << 40, NextToken: 1<<40 - 6398})
	x.do(api.Op{Kind: api.OpSubmit, Plan: p})
	for range 100 {
		for lane := range 16 {
			for x.e.Ready(lane) > 0 {
				a := x.do(api.Op{Kind: api.OpPoll, Lane: lane})
				if a.Code != api.OK {
					break
				}
				x.do(api.Op{Kind: api.OpBeat, Token: a.Task.Token})
				x.do(api.Op{Kind: api.OpFail, Token: a.Task.Token})
			}
		}
		x.agrees()
		x.do(api.Op{Kind: api.OpTick, Ticks: 1<<30 + 1<<20})
	}
	x.do(api.Op{Kind: api.OpTick, Ticks: 1 << 62})
	x.agrees()
	tale := *x.tales[1<<40]
	holds(t, tale)
	if b := x.books[1<<40]; !b.Ended() || b.Run().Status != api.RunExpired || b.Run().Ended != 1<<62 {
		t.Errorf("P16.3: %+v", b.Run())
	}
	if len(tale.Notes) < 25000 {
		t.Errorf("only %d notes", len(tale.Notes))
	}
	d.takes(tale.Notes[:300]...)
}

// roomy is a plan whose lists have spare room, which is filled, and whose texts are its own.
func roomy(p api.Plan) api.Plan {
	more := func(list []int) []int { return append(slices.Clone(list), 9, 9, 9)[:len(list)] }
	p.Name = strings.Clone(p.Name)
	p.Nodes = slices.Clone(p.Nodes)
	for i := range p.Nodes {
		n := &p.Nodes[i]
		n.Needs, n.After, n.Name = more(n.Needs), more(n.After), strings.Clone(n.Name)
	}
	p.Nodes = append(p.Nodes, api.Node{Name: "room", Needs: []int{9}})[:len(p.Nodes)]
	return p
}

// wholly tells all of a plan, its lists' spare room too.
func wholly(p api.Plan) string {
	text := fmt.Sprint(p.Name, p.Deadline)
	for _, n := range p.Nodes[:cap(p.Nodes)] {
		text += fmt.Sprintf("; %v %v %v", n, n.Needs[:cap(n.Needs)], n.After[:cap(n.After)])
	}
	return text
}

func spoilList[T any](list []T, with T) {
	for i := range list[:cap(list)] {
		list[:cap(list)][i] = with
	}
}

func spoilPlan(p api.Plan) {
	for _, n := range p.Nodes {
		spoilList(n.Needs, 63)
		spoilList(n.After, 63)
	}
	spoilList(p.Nodes, api.Node{Name: "spoilt", Budget: 99, Close: 77})
}

// R4: a plan that is handed in is neither changed nor kept, its spare room and its texts neither.
func TestPlanHandedIn(t *testing.T) {
	for _, s := range stories() {
		p := roomy(s.Plan)
		over := []byte("over-bytes")
		p.Nodes[0].Name = unsafe.String(&over[0], len(over))
		want := wholly(p)
		named := s.Plan
		named.Nodes = slices.Clone(named.Nodes)
		named.Nodes[0].Name = "over-bytes"
		b, code := New(s.Run, p)
		if code != api.OK || wholly(p) != want {
			t.Fatalf("R4: New: %d, %s; was %s", code, wholly(p), want)
		}
		for i, n := range s.Notes {
			if i == len(s.Notes)/2 {
				if wholly(p) != want {
					t.Fatalf("R4: the plan was changed: %s; was %s", wholly(p), want)
				}
				spoilPlan(p)
				spoilList(over, '#')
			}
			if code := b.Add(n); code != api.OK {
				t.Fatalf("R4: %s: %d", textOf(n), code)
			}
			if got := b.Run().Plan; told(got) != told(named) {
				t.Fatalf("R4: the plan was kept: it is %+v now; want %+v", got, named)
			}
		}
	}
}

// R4: what Run answers is new memory: it can be turned, its spare room too, and nothing follows; no two lists of it, and no two answers, share any.
func TestRunIsNew(t *testing.T) {
	s := stories()[6]
	d := begin(t, "R4", s.Run, s.Plan)
	for _, n := range append([]api.Note{{}}, s.Notes...) {
		if n.Kind != 0 {
			d.takes(n)
		}
		one, two := d.b.Run(), d.b.Run()
		want := told(two)
		for _, x := range one.Plan.Nodes {
			spoilList(x.Needs, 63)
			spoilList(x.After, 62)
		}
		if told(one.Nodes) != told(two.Nodes) {
			t.Fatalf("R4: lists of one answer share memory: %+v", one)
		}
		spoilPlan(one.Plan)
		spoilList(one.Nodes, api.NodeState{State: 77, Result: []byte("spoilt")})
		if got := told(d.b.Run()); got != want || told(two) != want {
			t.Fatalf("R4: Run is %s now; want %s", got, want)
		}
	}
}

// R4: texts are new memory too.
func TestTextsAreNew(t *testing.T) {
	p := roomy(line())
	b, _ := New(1, p)
	seen := map[*byte]string{}
	apart := func(what string, p api.Plan) {
		t.Helper()
		for _, text := range []string{p.Name, p.Nodes[0].Name, p.Nodes[1].Name} {
			at := unsafe.StringData(text)
			if by, is := seen[at]; is {
				t.Errorf("R4: a text of %s shares memory with one of %s", what, by)
			}
			seen[at] = what
		}
	}
	apart("the plan that was handed in", p)
	apart("the plan that is kept", b.plan)
	apart("Run ahead of all notes", b.Run().Plan)
	b.Add(noteOf("Submitted 0 Due 100"))
	apart("Run", b.Run().Plan)
	apart("another Run", b.Run().Plan)
}

// R4: what Audit is handed is neither changed nor kept; its verdicts are new memory.
func TestStoriesHandedIn(t *testing.T) {
	list := stories()
	for i := range list {
		list[i].Plan = roomy(list[i].Plan)
		list[i].Notes = append(list[i].Notes, api.Note{Kind: 7, Time: 7})[:len(list[i].Notes)]
	}
	list = append(list, api.Story{Run: 77})[:len(list)]
	whole := func() (text string) {
		for _, s := range list[:cap(list)] {
			text += fmt.Sprint(s.Run, wholly(s.Plan), s.Notes[:cap(s.Notes)])
		}
		return text
	}
	want := whole()
	one, _ := Audit(list, 3)
	two, _ := Audit(list, 3)
	if whole() != want {
		t.Error("R4: Audit has changed what it was handed")
	}
	spoilList(one, api.Verdict{Run: 88})
	for i, v := range two {
		if v != (api.Verdict{Run: list[i].Run}) {
			t.Errorf("R4: two answers share memory: %+v", v)
		}
	}
	if whole() != want {
		t.Error("R4: the verdicts are what was handed in")
	}
}

// R5: two books have nothing to do with each other; also side by side, of one plan.
func TestBooksApart(t *testing.T) {
	list := stories()
	ends := make([]string, 4*len(list))
	var all sync.WaitGroup
	for i := range ends {
		s := list[i%len(list)]
		all.Go(func() {
			b, _ := New(s.Run, s.Plan)
			for _, n := range s.Notes {
				for _, bad := range turned(n)[:9] {
					if bad.Kind != n.Kind {
						b.Add(bad)
					}
				}
				if code := b.Add(n); code != api.OK {
					t.Errorf("R5: %s: %d", textOf(n), code)
				}
				ends[i] += told(b.Run())
			}
		})
	}
	all.Wait()
	for i, end := range ends {
		if end != ends[i%len(list)] {
			t.Errorf("R5: book %d stood otherwise than one that took the same", i)
		}
	}
	one, two := bookOf(t, line(), storyOf(begun)), bookOf(t, line(), storyOf(begun))
	want := told(two.Run())
	one.Add(noteOf("Leased 3 Node 0 Attempt 1 Token 5 Due 13"))
	if told(two.Run()) != want || two.Add(noteOf("Leased 1 Node 0 Attempt 1 Token 1 Due 11")) != api.OK {
		t.Error("R5: what one book takes is seen in the other")
	}
}

// R4: nil and empty lists are one.
func TestNilAndEmpty(t *testing.T) {
	empty := line()
	empty.Nodes[0].Needs, empty.Nodes[0].After, empty.Nodes[1].After = []int{}, []int{}, []int{}
	d := at(t, "R4", empty, handed)
	if got, want := told(d.b.Run()), told(at(t, "R4", line(), handed).b.Run()); got != want {
		t.Errorf("R4: %s; want %s", got, want)
	}
}

// bytesOf gives numbers out of bytes, and then noughts.
func bytesOf(b []byte) func() int {
	return func() int {
		if len(b) == 0 {
			return 0
		}
		x := b[0]
		b = b[1:]
		return int(x)
	}
}

// FuzzBook makes a plan and notes of bytes, such as may come and such as may not, and asks the book and the model.
func FuzzBook(f *testing.F) {
	f.Add([]byte{3, 1, 0, 5, 9, 0, 1, 2, 3, 4, 5, 6, 7, 0, 0, 0, 0, 0, 0})
	f.Add([]byte("some words of no meaning, long enough for a story of a few notes"))
	f.Fuzz(func(t *testing.T, b []byte) {
		if len(b) > 400 {
			return
		}
		next := bytesOf(b)
		r := chance(int64(next()))
		d := begin(t, "P16.2", 1+next(), anyPlan(r, 1+next()%8))
		for used := 3; used < len(b); used += 3 {
			how, which, seed := next(), next(), next()
			n, ok := d.anyNext(chance(int64(seed)))
			if !ok {
				n = api.Note{Kind: how % 13, Time: which, Run: d.m.id}
			}
			if how%3 == 0 {
				list := turned(n)
				n = list[which%len(list)]
			}
			d.add(n)
		}
		holds(t, api.Story{Run: d.m.id, Plan: d.m.p, Notes: d.notes})
	})
}
