package cadence

import (
	"cmp"
	"fmt"
	"slices"
	"strings"
	"sync"
	"testing"
	"unsafe"

	"escapement/api"
)

// P18.5: whose the memory is, and two books.

// stretch is a piece of memory, spare room too.
type stretch struct {
	what string
	from uintptr
	size uintptr
}

func listAt[T any](what string, list []T) stretch {
	var one T
	return stretch{what, uintptr(unsafe.Pointer(unsafe.SliceData(list))), uintptr(cap(list)) * unsafe.Sizeof(one)}
}

func textAt(what, text string) stretch {
	return stretch{what, uintptr(unsafe.Pointer(unsafe.StringData(text))), uintptr(len(text))}
}

func planAt(what string, p api.Plan) []stretch {
	l := []stretch{textAt(what+" plan's Name", p.Name), listAt(what+" Nodes", p.Nodes)}
	for _, n := range p.Nodes {
		l = append(l, textAt(what+" node's Name", n.Name), listAt(what+" Needs", n.Needs), listAt(what+" After", n.After))
	}
	return l
}

func scheduleAt(s api.Schedule) []stretch {
	return append(planAt("a schedule's", s.Plan), textAt("a schedule's Name", s.Name), textAt("a schedule's Cron", s.Cron))
}

func namesAt(names []string) []stretch {
	l := []stretch{listAt("Names", names)}
	for _, name := range names {
		l = append(l, textAt("one of Names", name))
	}
	return l
}

func firedAt(list []api.Fired) []stretch {
	l := []stretch{listAt("what was fired", list)}
	for _, f := range list {
		l = append(l, textAt("a Name that was fired", f.Name), listAt("Notes", f.Answer.Notes))
	}
	return l
}

// liesApart looks whether no two stretches meet. Texts of one byte are the language's own: it has each of them once.
func liesApart(t *testing.T, all []stretch) {
	t.Helper()
	all = slices.DeleteFunc(slices.Clone(all), func(x stretch) bool { return x.size <= 1 })
	slices.SortFunc(all, func(a, b stretch) int { return cmp.Compare(a.from, b.from) })
	for i := 1; i < len(all); i++ {
		if all[i-1].from+all[i-1].size > all[i].from {
			t.Fatalf("P18.5: %s and %s share memory", all[i-1].what, all[i].what)
		}
	}
}

// loose is a text whose bytes can be turned.
func loose(text string) (string, []byte) {
	b := []byte(text)
	return unsafe.String(unsafe.SliceData(b), len(b)), b
}

// roomy is a list with spare room, and something in it.
func roomy[T any](list ...T) []T { return append(list, list...)[:len(list)] }

// wordy is a schedule with long texts and roomy lists; spoil turns all of its memory.
func wordy(name string) (s api.Schedule, spoil func()) {
	var texts [][]byte
	text := func(word string) string {
		one, b := loose(word)
		texts = append(texts, b)
		return one
	}
	nodes := wide(3).Nodes
	for i := range nodes {
		nodes[i].Name = text(fmt.Sprint("node-", i))
		nodes[i].Needs, nodes[i].After = roomy(nodes[i].Needs...), []int{7, 7, 7}[:0]
	}
	nodes[2].After = roomy(0)
	s = api.Schedule{Name: text(name), Cron: text("*/5 * * * *"), Plan: api.Plan{Name: text("the-plan"), Deadline: 100, Nodes: roomy(nodes...)}, From: 60}
	return s, func() {
		for _, n := range s.Plan.Nodes {
			for _, list := range [][]int{n.Needs, n.After} {
				for i := range list[:cap(list)] {
					list[:cap(list)][i] = 99
				}
			}
		}
		clear(s.Plan.Nodes[:cap(s.Plan.Nodes)])
		for _, b := range texts {
			for i := range b {
				b[i] = 'X'
			}
		}
	}
}

// roomOf tells a schedule with its lists' spare room.
func roomOf(s api.Schedule) string {
	text := told(s)
	for _, n := range s.Plan.Nodes[:cap(s.Plan.Nodes)] {
		text += fmt.Sprintf("%+v %v %v", n, n.Needs[:cap(n.Needs)], n.After[:cap(n.After)])
	}
	return text
}

// A schedule that is handed in is neither changed nor kept, its spare room neither: not where it is taken, and not where it is refused.
func TestHandedIn(t *testing.T) {
	b := New()
	put := func(name string, code api.Errno) {
		t.Helper()
		s, spoil := wordy(name)
		ahead := roomOf(s)
		is(t, "P18.5", b.Add(s), code)
		if roomOf(s) != ahead {
			t.Errorf("P18.5: Add has changed %s to %s", ahead, roomOf(s))
		}
		there := wholly(b)
		spoil()
		if got := wholly(b); got != there {
			t.Errorf("P18.5: what was handed in is kept: %s; was %s", got, there)
		}
	}
	put("some-name", api.OK)
	put("some-name", api.ErrCadenceName)
	put("Some-name", api.ErrCadenceName)
	put("another-name", api.OK)
	name, spare := loose("another-name")
	is(t, "P18.5", b.Drop(name), api.OK)
	clear(spare)
	put("another-name", api.OK)
	s := at(t, 700)
	fires(t, "P18.5", b, s, "another-name 600 0, some-name 600 0")
	want, _ := wordy("some-name")
	for i, key := range []string{"another-name@600", "some-name@600"} {
		if r, _ := s.Run(i + 1); r.Key != key || told(r.Plan) != told(want.Plan) {
			t.Errorf("P18.5: run %d is %+v", i+1, r)
		}
	}
	is(t, "P18.5", b.Drop("some-name"), api.OK)
	is(t, "P18.5", b.Drop("another-name"), api.OK)
}

// A plan is submitted whole each time, whatever the store, or who has been told of its runs, has done with it.
func TestPlanStays(t *testing.T) {
	x, _ := wordy("some-name")
	b := with(t, x)
	want, _ := wordy("some-name")
	for i := range 4 {
		s := at(t, 600+300*i)
		fires(t, "P18.5", b, s, fmt.Sprintf("some-name %d 0", 600+300*i))
		r, _ := s.Run(1)
		if told(r.Plan) != told(want.Plan) {
			t.Fatalf("P18.5: time %d: %+v", i, r.Plan)
		}
		pass(t, s, poll(0), cancel(1), forget(1))
		for _, n := range r.Plan.Nodes {
			clear(n.Needs)
			clear(n.After)
		}
		clear(r.Plan.Nodes)
	}
}

// What is answered is new memory, spare room too; what the caller does with it is not seen.
func TestAnswersAreNew(t *testing.T) {
	one, _ := wordy("some-name")
	two, _ := wordy("another-name")
	b := with(t, one, two)
	all := slices.Concat(scheduleAt(one), scheduleAt(two))
	names, again := b.Names(), b.Names()
	dues, twice := b.Due(600), b.Due(600)
	s := at(t, 600)
	fired, _ := b.Fire(s)
	r, _ := s.Run(1)
	if len(names) != 2 || len(dues) != 2 || len(fired) != 2 || len(fired[0].Answer.Notes) != 2 {
		t.Fatalf("P18.5: %q, %+v, %+v", names, dues, fired)
	}
	for _, more := range [][]stretch{namesAt(names), namesAt(again), firedAt(dues), firedAt(twice), firedAt(fired), planAt("a run's", r.Plan), {textAt("a run's Key", r.Key)}} {
		all = append(all, more...)
	}
	for _, x := range b.schedules {
		all = append(all, planAt("the book's", x.plan)...)
	}
	for name := range b.schedules {
		all = append(all, textAt("the book's Name", name))
	}
	liesApart(t, all)
	ahead, state := wholly(b), told(s.State())
	for _, list := range [][]api.Fired{dues, twice, fired} {
		for _, f := range list {
			clear(f.Answer.Notes[:cap(f.Answer.Notes)])
		}
		clear(list[:cap(list)])
	}
	clear(names[:cap(names)])
	if wholly(b) != ahead || told(s.State()) != state || told(again) != "[another-name some-name]" {
		t.Errorf("P18.5: what was answered is the book's: %s; was %s", wholly(b), ahead)
	}
}

// Nil and empty lists are one.
func TestNilAndEmpty(t *testing.T) {
	full := small(0)
	full.Nodes[0].Needs, full.Nodes[0].After = []int{}, []int{}
	s := at(t, 600)
	fires(t, "R4", with(t, minutely("a")), s, "a 600 0")
	if f := fires(t, "R4", with(t, doing(minutely("a"), full)), s, "a 600 0"); !f[0].Answer.Again {
		t.Errorf("R4: %+v", f)
	}
	is(t, "R4", New().Add(doing(minutely("a"), api.Plan{Name: "p", Deadline: 1, Nodes: []api.Node{}})), api.ErrPlanSize)
}

// Two books have nothing in common: neither schedules nor what was fired.
func TestTwoBooks(t *testing.T) {
	one, two := with(t, minutely("a"), minutely("b")), with(t, minutely("a"), nightly())
	s := at(t, 660)
	leaves(t, two, func() {
		fires(t, "P18.5", one, s, "a 660 0, b 660 0")
		is(t, "P18.5", one.Drop("a"), api.OK)
		is(t, "P18.5", one.Add(minutely("nightly")), api.OK)
	})
	leaves(t, one, func() {
		if f := fires(t, "P18.5", two, s, "a 660 0"); !f[0].Answer.Again || f[0].Answer.Run != 1 {
			t.Errorf("P18.6: %+v", f)
		}
		is(t, "P18.5", two.Drop("a"), api.OK)
		is(t, "P18.5", two.Drop("b"), api.ErrCadenceNone)
		is(t, "P18.5", two.Add(every("b", "0 0 30 2 *")), api.OK)
	})
	if got := told(one.Names()) + told(two.Names()); got != "[b nightly][b nightly]" {
		t.Errorf("P18.5: %s", got)
	}
	due(t, "P18.5", one, 660, "nightly 660")
	due(t, "P18.5", two, 9000, "nightly 9000")
}

// R5: books side by side, each with a store of its own, answer the same each time.
func TestSideBySide(t *testing.T) {
	var all sync.WaitGroup
	texts := make([]string, 8)
	for i := range texts {
		s := at(t, 0)
		all.Go(func() {
			var text strings.Builder
			r, b := chance(3), New()
			for range 300 {
				switch x := anySchedule(r); r.Intn(6) {
				case 0:
					fmt.Fprint(&text, int(b.Drop(x.Name)))
				case 1, 2:
					fmt.Fprint(&text, int(b.Add(x)))
				case 3:
					s.Do(tick(r.Intn(2000)))
				default:
					list, code := b.Fire(s)
					next, ok := b.Next(s.Now())
					fmt.Fprint(&text, told(list), int(code), next, ok, told(b.Names()))
				}
			}
			texts[i] = text.String() + told(s.State())
		})
	}
	all.Wait()
	for _, text := range texts {
		if text != texts[0] {
			t.Error("R5: the same calls were answered in two ways")
		}
	}
}
