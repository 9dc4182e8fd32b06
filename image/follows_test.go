package image

import (
	"bytes"
	"cmp"
	"slices"
	"strings"
	"sync"
	"testing"
	"unsafe"

	"escapement/api"
	"escapement/engine"
)

// What follows, P15.5 to P15.8; whose the memory is; chance.

// back lets a state go there and back.
func back(t *testing.T, s api.State) []byte {
	t.Helper()
	b := checks(t, "P15.5", s, api.OK)
	got, code := Read(b)
	if !sameState(got, s) || code != api.OK {
		t.Fatalf("P15.5: %s comes back as %s, %d", told(s), told(got), code)
	}
	return b
}

// P15.5: of each state that may be.
func TestBack(t *testing.T) {
	t.Parallel()
	ended, live := atBounds()
	for _, s := range append(gallery(t), ended, live, busy()) {
		back(t, s)
	}
	r := chance(2)
	for range 60 {
		e := engine.New()
		for range 40 {
			e.Do(anyOp(r, e.State()))
			back(t, e.State())
		}
	}
}

// emptied has an empty list, or empty bytes, wherever there is nothing.
func emptied(s api.State) api.State {
	s.Runs, s.Ready, s.Timers = append([]api.RunState{}, s.Runs...), append([]api.Ref{}, s.Ready...), append([]api.Timer{}, s.Timers...)
	for i := range s.Runs {
		r := &s.Runs[i]
		r.Plan.Nodes = slices.Clone(r.Plan.Nodes)
		for j := range r.Plan.Nodes {
			n := &r.Plan.Nodes[j]
			n.Needs, n.After = append([]int{}, n.Needs...), append([]int{}, n.After...)
		}
		r.Nodes = slices.Clone(r.Nodes)
		for j := range r.Nodes {
			r.Nodes[j].Result = append([]byte{}, r.Nodes[j].Result...)
		}
	}
	return s
}

// P15.5, R4: nil and empty are one.
func TestNilAndEmpty(t *testing.T) {
	for _, s := range gallery(t) {
		if b, other := back(t, s), back(t, emptied(s)); !bytes.Equal(b, other) {
			t.Fatalf("P15.5: %s: %v with nil, %v with empty lists", told(s), b, other)
		}
	}
	for _, b := range [][]byte{nil, {}} {
		reads(t, "P15.3", b, api.State{}, api.ErrImageBytes)
	}
}

// goOn tells two engines the same, and holds against each other what they answer.
func goOn(t *testing.T, a, b *engine.Engine, ops func(s api.State) []api.Op) {
	t.Helper()
	for _, o := range ops(a.State()) {
		x, y := a.Do(o), b.Do(o)
		if told(x) != told(y) {
			t.Fatalf("P15.5: %s: %s;\nthe one that was loaded: %s", told(o), told(x), told(y))
		}
		sameEngine(t, a, b)
	}
}

func sameEngine(t *testing.T, a, b *engine.Engine) {
	t.Helper()
	s, other := a.State(), b.State()
	if !sameState(s, other) || a.Now() != b.Now() {
		t.Fatalf("P15.5: %s;\nthe one that was loaded: %s", told(s), told(other))
	}
	for lane := range 17 {
		if a.Ready(lane) != b.Ready(lane) {
			t.Fatalf("P15.5: lane %d: %d and %d are ready", lane, a.Ready(lane), b.Ready(lane))
		}
	}
	due, ok := a.Due()
	if other, there := b.Due(); due != other || ok != there {
		t.Fatalf("P15.5: the next timer comes at %d, %t, and at %d, %t", due, ok, other, there)
	}
	for _, r := range s.Runs {
		one, _ := a.Run(r.ID)
		if other, code := b.Run(r.ID); told(one) != told(other) || code != api.OK {
			t.Fatalf("P15.5: run %d is %s; the one that was loaded: %s", r.ID, told(one), told(other))
		}
	}
}

// P15.5: an engine that was loaded answers all that follows as the one that was saved; loaded again and again too.
func TestGoesOn(t *testing.T) {
	t.Parallel()
	r := chance(3)
	for i := range 100 {
		e := course(r, i)
		b, _ := Save(e)
		l, code := Load(b)
		if code != api.OK {
			t.Fatalf("P15.5: Load(%v): %d", b, code)
		}
		for range 60 {
			goOn(t, e, l, func(s api.State) []api.Op { return []api.Op{anyOp(r, s)} })
			if r.Intn(10) == 0 {
				b, _ = Save(l)
				l, _ = Load(b)
			}
		}
	}
}

// P15.5: each operation on each state of the gallery, and ticks till nothing is left to come.
func TestGoesOnFromAll(t *testing.T) {
	t.Parallel()
	ended, live := atBounds()
	for i, s := range append(gallery(t), ended, live, busy()) {
		e, _ := engine.From(s)
		b, _ := Save(e)
		l, code := Load(b)
		if code != api.OK {
			t.Fatalf("P15.5: Load(%v): %d", b, code)
		}
		goOn(t, e, l, func(s api.State) []api.Op {
			ops := []api.Op{{Kind: api.OpDraw, Luck: uint64(i)}, {Kind: api.OpPoll, Worker: 1}, {Kind: api.OpPoll, Lane: 2}, {Kind: api.OpPoll, Lane: 15}, {Kind: api.OpSubmit, Plan: planOf(9, nodeOf("new")), Key: "s"}, {Kind: api.OpSubmit, Plan: planOf(9, nodeOf("new"))}, {Kind: api.OpForget, Run: 3}}
			for _, token := range append(leasesOf(s), 0, 1<<40)[:2] {
				ops = append(ops, api.Op{Kind: api.OpBeat, Token: token}, api.Op{Kind: api.OpFail, Token: token}, api.Op{Kind: api.OpComplete, Token: token})
			}
			return append(ops, api.Op{Kind: api.OpTick, Ticks: 1}, api.Op{Kind: api.OpTick, Ticks: 7}, api.Op{Kind: api.OpCancel, Run: 8}, api.Op{Kind: api.OpTick, Ticks: 1 << 62})
		})
	}
}

// oneForm asks bytes that can be read for what they were.
func oneForm(t *testing.T, b []byte) bool {
	t.Helper()
	s, code := Read(b)
	if code != api.OK {
		return false
	}
	if again, code := Bytes(s); !bytes.Equal(again, b) || code != api.OK {
		t.Fatalf("P15.6: %v is read as %s, which is %v, %d", b, told(s), again, code)
	}
	return true
}

// P15.6, P15.3: images that were turned in a few bytes by chance, many into other images.
func TestOneForm(t *testing.T) {
	t.Parallel()
	r, images := chance(4), 0
	for i := range 300 {
		b, _ := Save(course(r, i%50))
		for range 40 {
			turned := slices.Clone(b)
			for range 1 + r.Intn(2) {
				switch at := r.Intn(len(turned)); r.Intn(5) {
				case 0:
					turned[at] = byte(r.Intn(256))
				case 1:
					turned = slices.Insert(turned, at, []byte{0, 1, 128}[r.Intn(3)])
				case 2:
					turned = slices.Delete(turned, at, at+1)
				default:
					turned[at] += byte(1 + r.Intn(3))
				}
			}
			asMeant(t, "P15.3", turned)
			if oneForm(t, turned) {
				images++
			}
		}
	}
	if images < 1000 {
		t.Errorf("only %d are images", images)
	}
}

// P15.7: by their bytes in order: what begins another one stands right ahead of one that it begins.
func TestAlone(t *testing.T) {
	t.Parallel()
	r, all := chance(5), map[string]string{}
	add := func(s api.State) {
		b, code := Bytes(s)
		if was, there := all[string(b)]; code != api.OK || there && was != told(s) {
			t.Fatalf("P15.7: %s and %s have one image, %d", was, told(s), code)
		}
		all[string(b)] = told(s)
	}
	for _, s := range gallery(t) {
		add(s)
	}
	for range 100 {
		e := engine.New()
		for range 40 {
			e.Do(anyOp(r, e.State()))
			add(e.State())
		}
	}
	for n := range 3000 {
		add(api.State{Now: n % 300, Luck: uint64(n / 7), NextRun: 1 + n%130, NextToken: 1 + n/30})
	}
	if len(all) < 4500 {
		t.Fatalf("only %d states", len(all))
	}
	list := make([]string, 0, len(all))
	for b := range all {
		list = append(list, b)
	}
	slices.Sort(list)
	for i := 1; i < len(list); i++ {
		if strings.HasPrefix(list[i], list[i-1]) {
			t.Fatalf("P15.7: the image of %s begins that of %s", all[list[i-1]], all[list[i]])
		}
	}
}

// greatPlan has as many bytes as a plan can have.
func greatPlan() api.Plan {
	const delay = 1 << 40
	p := api.Plan{Name: strings.Repeat("p", 40), Deadline: delay}
	edges := 256
	for i := range 64 {
		n := api.Node{Name: strings.Repeat("n", 38) + string(rune('a'+i/8)) + string(rune('a'+i%8)), Lane: 15, Budget: 100, Close: delay, Beat: delay, Base: delay, Cap: delay, Jitter: delay}
		for ahead := 0; ahead < i && edges > 0; ahead++ {
			n.Needs = append(n.Needs, ahead)
			edges--
		}
		p.Nodes = append(p.Nodes, n)
	}
	return p
}

// greatest has 256 runs of such plans: so many of them are live, with one node that is leased, all others are done; those that have ended have succeeded.
func greatest(live int) api.State {
	const late, count = 1<<62 - 1<<40, 1 << 40
	s := api.State{Now: late, Luck: 1<<64 - 1, NextRun: count + 1, NextToken: count + 1}
	p := greatPlan()
	for i := range 256 {
		r := api.RunState{ID: count - 255 + i, Key: strings.Repeat("k", 38) + string(rune('A'+i/16)) + string(rune('A'+i%16)), Plan: p, Status: 2, Submitted: late, Ended: late}
		for range p.Nodes {
			r.Nodes = append(r.Nodes, api.NodeState{State: 5, Attempts: 100, Result: bytes.Repeat([]byte{byte(i)}, 64)})
		}
		if i < live {
			r.Status, r.Ended = 1, 0
			r.Nodes[63] = api.NodeState{State: 3, Attempts: 100, Token: count - i, Worker: count}
		}
		s.Runs = append(s.Runs, r)
	}
	for kind := 1; kind <= 3; kind++ {
		for _, r := range s.Runs[:live] {
			s.Timers = append(s.Timers, api.Timer{Due: 1 << 62, Kind: kind, Run: r.ID, Node: []int{0, 0, 63, 63}[kind]})
		}
	}
	return s
}

// P15.8: the greatest images go there and back, and have no more bytes than is said.
func TestFits(t *testing.T) {
	t.Parallel()
	most := 0
	for i, s := range []api.State{greatest(0), greatest(1), greatest(16), busy(), tasks()(), many(256)()} {
		b := back(t, s)
		if !bytes.Equal(b, laid(s)) {
			t.Fatalf("P15.2: the image of great state %d is not as the tables say", i)
		}
		if len(b) > 3_500_000 || len(b) >= api.MaxImage {
			t.Errorf("P15.8: great state %d has %d bytes", i, len(b))
		}
		most = max(most, len(b))
		e, _ := engine.From(s)
		saved, code := Save(e)
		if !bytes.Equal(saved, b) || code != api.OK {
			t.Errorf("P15.8: Save of great state %d: %d bytes, %d", i, len(saved), code)
		}
	}
	// 256 runs of a plan of 5104 bytes, 64 nodes of 69 bytes each and 67 bytes more, and 34 of all else.
	if most != 256*(5104+64*69+67)+34 {
		t.Errorf("P15.8: the greatest image has %d bytes", most)
	}
}

// Whose the memory is.

// stretch is a piece of memory, spare room too.
type stretch struct {
	what string
	from uintptr
	size uintptr
}

func listAt[T any](what string, list []T) stretch {
	var one T
	return stretch{what, uintptr(unsafe.Pointer(unsafe.SliceData(list))), uintptr(cap(list)) * unsafe.Sizeof(one)}
}

func textAt(what, text string) stretch {
	return stretch{what, uintptr(unsafe.Pointer(unsafe.StringData(text))), uintptr(len(text))}
}

// memory is all that a state lies in.
func memory(s api.State) []stretch {
	l := []stretch{listAt("Runs", s.Runs), listAt("Ready", s.Ready), listAt("Timers", s.Timers)}
	for _, r := range s.Runs {
		l = append(l, textAt("Key", r.Key), textAt("Plan.Name", r.Plan.Name), listAt("Plan.Nodes", r.Plan.Nodes), listAt("Nodes", r.Nodes))
		for _, n := range r.Plan.Nodes {
			l = append(l, textAt("Name", n.Name), listAt("Needs", n.Needs), listAt("After", n.After))
		}
		for _, n := range r.Nodes {
			l = append(l, listAt("Result", n.Result))
		}
	}
	return l
}

// liesApart looks whether no two stretches meet. Texts of one byte are the language's own: it has each of them once.
func liesApart(t *testing.T, all ...stretch) {
	t.Helper()
	all = slices.DeleteFunc(all, func(x stretch) bool { return x.size <= 1 })
	slices.SortFunc(all, func(a, b stretch) int { return cmp.Compare(a.from, b.from) })
	for i := 1; i < len(all); i++ {
		if all[i-1].from+all[i-1].size > all[i].from {
			t.Fatalf("R4: %s and %s share memory", all[i-1].what, all[i].what)
		}
	}
}

// wordy has texts and lists of more than a byte.
func wordy() api.State {
	s := mixed()
	for i := range s.Runs {
		s.Runs[i].Key += strings.Repeat("key", 1+i)
		s.Runs[i].Plan.Name += strings.Repeat("lan", 1+i)
		for j := range s.Runs[i].Plan.Nodes {
			s.Runs[i].Plan.Nodes[j].Name += "-of-node"
		}
		for j := range s.Runs[i].Nodes {
			if s.Runs[i].Nodes[j].State == api.NodeDone {
				s.Runs[i].Nodes[j].Result = bytes.Repeat([]byte("result"), 5)
			}
		}
	}
	return s
}

// R4: what is answered is new memory, spare room too; no two lists of it share any.
func TestAnswersAreNew(t *testing.T) {
	s := wordy()
	b := back(t, s)
	one, _ := Read(b)
	two, _ := Read(b)
	liesApart(t, slices.Concat(memory(s), memory(one), memory(two), []stretch{listAt("bytes", b)})...)
	again, _ := Bytes(s)
	e, _ := engine.From(s)
	saved, _ := Save(e)
	more, _ := Save(e)
	liesApart(t, listAt("bytes", b), listAt("bytes again", again), listAt("saved", saved), listAt("saved again", more))
	for _, list := range [][]byte{again, saved, more} {
		clear(list[:cap(list)])
	}
	if last, _ := Save(e); !bytes.Equal(last, b) || !sameState(e.State(), s) {
		t.Error("R4: what was saved is the engine's")
	}
}

// roomy is a list with spare room, and something in it.
func roomy[T any](list []T) []T { return append(list, list...)[:len(list)] }

func roomyState() api.State {
	s := wordy()
	s.Runs, s.Ready, s.Timers = roomy(s.Runs), roomy(s.Ready), roomy(s.Timers)
	for i := range s.Runs {
		r := &s.Runs[i]
		r.Plan.Nodes, r.Nodes = roomy(r.Plan.Nodes), roomy(r.Nodes)
		for j := range r.Plan.Nodes {
			n := &r.Plan.Nodes[j]
			n.Needs, n.After = roomy(n.Needs), roomy(n.After)
		}
		for j := range r.Nodes {
			r.Nodes[j].Result = roomy(r.Nodes[j].Result)
		}
	}
	return s
}

// wholly tells a state with its lists' spare room.
func wholly(s api.State) string {
	text := told(s.Ready[:cap(s.Ready)]) + told(s.Timers[:cap(s.Timers)])
	for _, r := range s.Runs[:cap(s.Runs)] {
		text += told(r) + told(r.Plan.Nodes[:cap(r.Plan.Nodes)]) + told(r.Nodes[:cap(r.Nodes)])
		for i, n := range r.Nodes {
			text += told(r.Plan.Nodes[i].Needs[:cap(r.Plan.Nodes[i].Needs)]) + told(r.Plan.Nodes[i].After[:cap(r.Plan.Nodes[i].After)]) + told(n.Result[:cap(n.Result)])
		}
	}
	return text
}

// spoil turns all that a state lies in.
func spoil(s api.State) {
	for _, r := range s.Runs {
		for i := range r.Nodes {
			clear(r.Plan.Nodes[i].Needs)
			clear(r.Plan.Nodes[i].After)
			clear(r.Nodes[i].Result)
		}
		clear(r.Plan.Nodes)
		clear(r.Nodes)
	}
	clear(s.Runs)
	clear(s.Ready)
	clear(s.Timers)
}

// R4: what is handed in is neither changed nor kept, its spare room neither.
func TestHandedIn(t *testing.T) {
	s, want := roomyState(), laid(wordy())
	ahead := wholly(s)
	b, code := Bytes(s)
	if code != api.OK || Check(s) != api.OK {
		t.Fatalf("P15.2: %d", code)
	}
	if wholly(s) != ahead {
		t.Error("R4: the state that was handed in is another one")
	}
	spoil(s)
	if !bytes.Equal(b, want) {
		t.Error("R4: the bytes are the state's")
	}
	room := roomy(want)
	whole := slices.Clone(room[:cap(room)])
	got, _ := Read(room)
	e, _ := Load(room)
	if !bytes.Equal(room[:cap(room)], whole) {
		t.Error("R4: the bytes that were handed in are others")
	}
	clear(room[:cap(room)])
	if told(got) != told(wordy()) || told(e.State()) != told(wordy()) {
		t.Error("R4: the state, or the engine, is the bytes'")
	}
}

// R5: two engines of one image have nothing to do with each other, nor with the one that was saved.
func TestEnginesApart(t *testing.T) {
	e, _ := engine.From(wordy())
	b, _ := Save(e)
	one, _ := Load(b)
	two, _ := Load(b)
	for _, o := range []api.Op{{Kind: api.OpPoll}, {Kind: api.OpDraw, Luck: 1}, {Kind: api.OpComplete, Token: 3}, {Kind: api.OpForget, Run: 1}, {Kind: api.OpTick, Ticks: 1000}} {
		if a := one.Do(o); a.Code != api.OK {
			t.Fatalf("operation %d: %d", o.Kind, a.Code)
		}
		if !sameState(e.State(), wordy()) || !sameState(two.State(), wordy()) {
			t.Fatalf("R5: operation %d is seen in another engine", o.Kind)
		}
	}
}

// R5: side by side, of one state, one engine and one row of bytes.
func TestSideBySide(t *testing.T) {
	s := wordy()
	b := laid(s)
	e, _ := engine.From(s)
	var all sync.WaitGroup
	for range 8 {
		all.Go(func() {
			for range 20 {
				made, code := Bytes(s)
				saved, also := Save(e)
				if !bytes.Equal(made, b) || !bytes.Equal(saved, b) || code != api.OK || also != api.OK {
					t.Errorf("R5: %d, %d", code, also)
				}
				got, code := Read(b)
				l, also := Load(b)
				if code != api.OK || also != api.OK || !sameState(got, s) || !sameState(l.State(), s) {
					t.Errorf("R5: %d, %d", code, also)
				}
			}
		})
	}
	all.Wait()
}

// FuzzRead reads any bytes as the model does.
func FuzzRead(f *testing.F) {
	ended, live := atBounds()
	for _, s := range []api.State{fresh(), mixed(), atEnd(), crowd(2, 1), ended, live} {
		f.Add(laid(s))
	}
	r := chance(6)
	for i := range 10 {
		f.Add(laid(course(r, 5*i).State()))
	}
	f.Fuzz(func(t *testing.T, b []byte) {
		asMeant(t, "P15.3", b)
		oneForm(t, b)
	})
}
