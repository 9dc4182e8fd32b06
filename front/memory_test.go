package front

import (
	"cmp"
	"fmt"
	"slices"
	"strings"
	"sync"
	"testing"
	"unsafe"

	"escapement/api"
	"escapement/cadence"
	"escapement/disk"
	"escapement/durable"
)

// The promise P20.5: whose the memory is, and two fronts.

// stretch is a piece of memory, spare room too.
type stretch struct {
	what string
	from uintptr
	size uintptr
}

func listAt[T any](what string, list []T) stretch {
	var one T
	return stretch{what, uintptr(unsafe.Pointer(unsafe.SliceData(list))), uintptr(cap(list)) * unsafe.Sizeof(one)}
}

func textAt(what, text string) stretch {
	return stretch{what, uintptr(unsafe.Pointer(unsafe.StringData(text))), uintptr(len(text))}
}

func planAt(p api.Plan) []stretch {
	l := []stretch{textAt("a plan's Name", p.Name), listAt("Nodes", p.Nodes)}
	for _, n := range p.Nodes {
		l = append(l, textAt("a node's Name", n.Name), listAt("Needs", n.Needs), listAt("After", n.After))
	}
	return l
}

func askAt(a api.Ask) []stretch {
	l := []stretch{textAt("Key", a.Op.Key), listAt("Result", a.Op.Result), textAt("Name", a.Name), textAt("a schedule's Name", a.Schedule.Name), textAt("Cron", a.Schedule.Cron)}
	return append(append(l, planAt(a.Op.Plan)...), planAt(a.Schedule.Plan)...)
}

func answerAt(a api.Answer) []stretch {
	l := []stretch{listAt("Notes", a.Notes), textAt("a task's Name", a.Task.Name), listAt("Inputs", a.Task.Inputs)}
	for _, b := range a.Task.Inputs {
		l = append(l, listAt("an input", b))
	}
	return l
}

func replyAt(r api.Reply) []stretch {
	l := append(answerAt(r.Answer), planAt(r.Run.Plan)...)
	l = append(l, textAt("a run's Key", r.Run.Key), listAt("a run's Nodes", r.Run.Nodes), listAt("Fired", r.Fired), listAt("Answers", r.Answers))
	for _, n := range r.Run.Nodes {
		l = append(l, listAt("a node's Result", n.Result))
	}
	for _, f := range r.Fired {
		l = append(append(l, textAt("a fired one's Name", f.Name)), answerAt(f.Answer)...)
	}
	for _, a := range r.Answers {
		l = append(l, answerAt(a)...)
	}
	return l
}

// liesApart looks whether no two stretches meet. Texts of one byte are the language's own: it has each of them once.
func liesApart(t *testing.T, all []stretch) {
	t.Helper()
	all = slices.DeleteFunc(slices.Clone(all), func(x stretch) bool { return x.size <= 1 })
	slices.SortFunc(all, func(a, b stretch) int { return cmp.Compare(a.from, b.from) })
	for i := 1; i < len(all); i++ {
		if all[i-1].from+all[i-1].size > all[i].from {
			t.Fatalf("P20.5: %s and %s share memory", all[i-1].what, all[i].what)
		}
	}
}

// roomy is bytes with spare room, and something in it.
func roomy(b []byte) []byte {
	return append(slices.Clone(b), "spare room"...)[:len(b)]
}

func spoil(b []byte) {
	for i := range b[:cap(b)] {
		b[:cap(b)][i] = 0xee
	}
}

// wordy is a plan with long names and edges of both kinds.
func wordy() api.Plan {
	a, b, c := node("node-a"), node("node-b", 0), node("node-c", 0)
	c.After = []int{1}
	p := of(a, b, c)
	p.Name = "the-plan"
	return p
}

// wordies are requests with all that holds memory.
func wordies() []api.Ask {
	return []api.Ask{submit(wordy(), "some key"), complete(1, "some result"), add("some-name", "* * * * *", wordy(), 3), drop("some-name"), runOf(300), round(3, 5), fire()}
}

// What Read answers is new memory, and nothing of the bytes, which stay as they are.
func TestReadMemory(t *testing.T) {
	for _, a := range wordies() {
		b := roomy(bytesOf(t, a))
		ahead := string(b[:cap(b)])
		one, _ := Read(b)
		two, _ := Read(b)
		if string(b[:cap(b)]) != ahead {
			t.Fatalf("P20.5: %x has become %x", ahead, b[:cap(b)])
		}
		liesApart(t, slices.Concat(askAt(one), askAt(two), askAt(a), []stretch{listAt("the bytes", b)}))
		spoil(b)
		if !sameAsk(one, a) || !sameAsk(two, a) {
			t.Errorf("P20.5: when its bytes were written over the request is %s; it was %s", brief(one), brief(a))
		}
	}
}

// What Bytes answers is new memory; the request is neither changed nor kept.
func TestBytesMemory(t *testing.T) {
	for i, a := range wordies() {
		one, _ := Bytes(a)
		two, _ := Bytes(a)
		liesApart(t, append(askAt(a), listAt("bytes", one), listAt("bytes", two)))
		want := string(two)
		spoil(one)
		if !sameAsk(a, wordies()[i]) || string(two) != want {
			t.Errorf("P20.5: %s has become %s", brief(wordies()[i]), brief(a))
		}
		if three, _ := Bytes(a); string(three) != want {
			t.Errorf("P20.5: %x; it was %x", three, want)
		}
		spoil(a.Op.Result)
		for _, p := range []api.Plan{a.Op.Plan, a.Schedule.Plan} {
			clear(p.Nodes)
		}
		if string(two) != want {
			t.Errorf("P20.5: the bytes hang on the request: %x; they were %x", two, want)
		}
	}
}

// Nothing of a request's bytes is kept, by the store, the cadence or the disk; they are not changed.
func TestDoKeepsNothing(t *testing.T) {
	k := on(t, "P20.5", blank(t, big))
	for _, a := range []api.Ask{submit(wordy(), "some key"), poll(0), complete(1, "some result"), add("some-name", "* * * * *", wordy(), 3), tick(60), fire(), drop("other-name"), runOf(1), round(3, 0), compact(), submit(wordy(), "another key")} {
		b := roomy(bytesOf(t, a))
		ahead := string(b[:cap(b)])
		got, want := k.f.Do(b), k.l.do(a)
		if string(b[:cap(b)]) != ahead {
			t.Fatalf("P20.5: %x has become %x", ahead, b[:cap(b)])
		}
		liesApart(t, append(replyAt(got), listAt("the bytes", b)))
		spoil(b)
		if told(got) != told(want) {
			t.Fatalf("P20.5: when its bytes were written over the reply to %s is %+v; want %+v", brief(a), got, want)
		}
		k.alike()
	}
	k.pass(tick(60))
	if r := k.is(fire(), api.OK); len(r.Fired) != 1 || r.Fired[0].Name != "some-name" || r.Fired[0].Answer.Code != api.OK {
		t.Errorf("P20.5: %+v", r)
	}
	k.open()
}

// wipe writes over all of a reply.
func wipe(r api.Reply) {
	answer := func(a api.Answer) {
		clear(a.Notes[:cap(a.Notes)])
		for _, b := range a.Task.Inputs {
			spoil(b)
		}
		clear(a.Task.Inputs[:cap(a.Task.Inputs)])
	}
	answer(r.Answer)
	for _, n := range r.Run.Plan.Nodes {
		clear(n.Needs[:cap(n.Needs)])
		clear(n.After[:cap(n.After)])
	}
	clear(r.Run.Plan.Nodes[:cap(r.Run.Plan.Nodes)])
	for _, n := range r.Run.Nodes {
		spoil(n.Result)
	}
	clear(r.Run.Nodes[:cap(r.Run.Nodes)])
	for _, f := range r.Fired {
		answer(f.Answer)
	}
	clear(r.Fired[:cap(r.Fired)])
	for _, a := range r.Answers {
		answer(a)
	}
	clear(r.Answers[:cap(r.Answers)])
}

// What Do answers is new memory, each time; no two lists share any, and what the caller does with it is not seen.
func TestDoAnswersNew(t *testing.T) {
	k := on(t, "P20.5", blank(t, big))
	asks := []api.Ask{submit(wordy(), "some key"), poll(0), complete(1, "some result"), poll(0), tick(0), runOf(1), runOf(1), minutely("some-name"), minutely("other-name"), tick(60), fire(), runOf(2), submit(wordy(), "new key"), round(16, 0), round(16, 0), runOf(1), tick(500)}
	all := replies(t, k.f, asks...)
	var stretches []stretch
	for i, r := range all {
		if want := k.l.do(asks[i]); told(r) != told(want) || r.Code != api.OK {
			t.Fatalf("P20.5: %+v; want %+v", r, want)
		}
		stretches = append(stretches, replyAt(r)...)
	}
	if len(all[3].Answer.Task.Inputs) == 0 || len(all[10].Fired) != 2 || len(all[13].Answers) < 4 || len(all[16].Answer.Notes) < 2 {
		t.Fatalf("P20.5: %+v", all)
	}
	liesApart(t, stretches)
	for _, r := range all {
		wipe(r)
	}
	k.alike()
	for _, a := range []api.Ask{fire(), tick(60), fire(), runOf(3), runOf(4), round(16, 3), compact(), submit(wordy(), "some key")} {
		k.do(a)
	}
	k.open()
}

// Two fronts on one disk are two stores on it: held against two stores on another disk that is used alike.
func TestTwoOnOneDisk(t *testing.T) {
	for seed := range 40 {
		r := chance(seed)
		d, twin := blank(t, 5000), blank(t, 5000)
		var fronts []*Front
		var below []*layers
		another := func() bool {
			f, code := New(d)
			s, want := durable.Open(twin)
			if code != want {
				t.Fatalf("P20.5: New: %d; want %d", code, want)
			}
			fronts, below = append(fronts, f), append(below, &layers{s, cadence.New()})
			return code == api.OK
		}
		another()
		another()
		for range 40 {
			if r.Intn(12) == 0 {
				// Where two have laid records the disk may hold what no store takes.
				if !another() {
					break
				}
			}
			i := r.Intn(len(fronts))
			a := someAsk(r, below[i].s.State())
			got, want := fronts[i].Do(bytesOf(t, a)), below[i].do(a)
			if told(got) != told(want) || whole(d) != whole(twin) {
				t.Fatalf("P20.5: %s: %+v, and the disk has %s; want %+v, %s", brief(a), got, whole(d), want, whole(twin))
			}
		}
	}
	// What the one has done the other one has not, till a new one is there.
	d := blank(t, big)
	one, two := made(t, d), made(t, d)
	replies(t, one, minutely("often"), submit(line(), "k"))
	for i, r := range replies(t, two, runOf(1), drop("often")) {
		if want := []api.Errno{api.ErrEngineRun, api.ErrCadenceNone}[i]; r.Code != want {
			t.Errorf("P20.5: %+v; want %d", r, want)
		}
	}
	if r := made(t, d).Do([]byte{3, 1}); r.Code != api.OK || r.Run.Key != "k" {
		t.Errorf("P20.5: %+v", r)
	}
}

// R5: fronts on disks of their own have nothing to do with each other, in turns and side by side; the same is answered each time.
func TestTwoDisks(t *testing.T) {
	r := chance(7)
	desks := []*desk{on(t, "R5", blank(t, big)), on(t, "R5", blank(t, 2000)), on(t, "R5", blank(t, 500))}
	for range 200 {
		k := desks[r.Intn(3)]
		k.do(someAsk(r, k.l.s.State()))
		for _, other := range desks {
			other.alike()
		}
	}
	var all sync.WaitGroup
	texts := make([]string, 8)
	for i := range texts {
		all.Go(func() {
			var b strings.Builder
			r := chance(9)
			d, _ := disk.New(4000)
			f, _ := New(d)
			for range 150 {
				request, _ := Bytes(someAsk(r, f.store.State()))
				fmt.Fprint(&b, told(f.Do(request)))
			}
			texts[i] = b.String() + whole(d)
		})
	}
	all.Wait()
	for _, text := range texts {
		if text != texts[0] {
			t.Error("R5: the same requests were answered in two ways")
		}
	}
}
