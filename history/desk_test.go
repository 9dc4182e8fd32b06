package history

import (
	"fmt"
	"math"
	"math/rand"
	"reflect"
	"slices"
	"strconv"
	"strings"
	"testing"

	"escapement/api"
)

// Plans, notes as text, and the desk: a book beside the model.

func chance(seed int64) *rand.Rand { return rand.New(rand.NewSource(seed)) }

func nodeOf(name string, needs ...int) api.Node {
	return api.Node{Name: name, Budget: 2, Close: 10, Base: 4, Cap: 8, Needs: needs}
}

// of is a plan of these nodes that is due in 100 ticks.
func of(nodes ...api.Node) api.Plan { return api.Plan{Name: "p", Deadline: 100, Nodes: nodes} }

// line is the plan of the document's examples: a, and b that needs it.
func line() api.Plan { return of(nodeOf("a"), nodeOf("b", 0)) }

// pair has two nodes that have nothing to do with each other.
func pair() api.Plan { return of(nodeOf("a"), nodeOf("b")) }

// with is a plan all of whose nodes were turned.
func with(p api.Plan, turn func(n *api.Node)) api.Plan {
	p.Nodes = slices.Clone(p.Nodes)
	for i := range p.Nodes {
		turn(&p.Nodes[i])
	}
	return p
}

func until(p api.Plan, deadline int) api.Plan {
	p.Deadline = deadline
	return p
}

// tree is: a; b needs a; c stands after a; d needs b; e needs c and b; f stands after e, and needs nothing.
func tree() api.Plan {
	p := of(nodeOf("a"), nodeOf("b", 0), nodeOf("c"), nodeOf("d", 1), nodeOf("e", 1, 2), nodeOf("f"))
	p.Nodes[2].After, p.Nodes[5].After = []int{0}, []int{4}
	return p
}

var kindNames = strings.Fields("none Submitted Ready Leased Beaten Done Failed Backoff Dead Skipped Ended Forgotten")

var whyNames = strings.Fields("none WhyTold WhyClosed WhyBeat WhyBudget WhyCancelled WhyDeadline")

var endNames = strings.Fields("none RunLive RunSucceeded RunFailed RunCancelled RunExpired")

// noteOf reads a note: its kind, its time, and what else it uses, as in the chapter's examples. Run is 1, if nothing else is said.
func noteOf(text string) api.Note {
	words := strings.Fields(text)
	n := api.Note{Kind: slices.Index(kindNames, words[0]), Run: 1}
	n.Time = numberOf(words[1])
	for words = words[2:]; len(words) > 0; words = words[1:] {
		if why := slices.Index(whyNames, words[0]); why > 0 {
			n.Why = why
			continue
		}
		if end := slices.Index(endNames, words[0]); end > 0 {
			n.Why = end
			continue
		}
		*map[string]*int{"Run": &n.Run, "Node": &n.Node, "Attempt": &n.Attempt, "Token": &n.Token, "Due": &n.Due, "Why": &n.Why}[words[0]] = numberOf(words[1])
		words = words[1:]
	}
	if n.Kind < 1 {
		panic("no note: " + text)
	}
	return n
}

func numberOf(word string) int {
	n, err := strconv.Atoi(word)
	if err != nil {
		panic("no number: " + word)
	}
	return n
}

// storyOf reads notes that stand between semicolons.
func storyOf(text string) (notes []api.Note) {
	for _, part := range strings.Split(text, ";") {
		if strings.TrimSpace(part) != "" {
			notes = append(notes, noteOf(part))
		}
	}
	return notes
}

// textOf tells a note, with all its fields that are not 0.
func textOf(n api.Note) string {
	text := fmt.Sprint("kind ", n.Kind)
	if n.Kind > 0 && n.Kind < len(kindNames) {
		text = kindNames[n.Kind]
	}
	text += fmt.Sprint(" ", n.Time)
	for i, field := range []int{n.Run, n.Node, n.Attempt, n.Token, n.Due, n.Why} {
		if field != 0 {
			text += fmt.Sprint(" ", []string{"Run", "Node", "Attempt", "Token", "Due", "Why"}[i], " ", field)
		}
	}
	return text
}

func textsOf(notes []api.Note) string {
	var texts []string
	for _, n := range notes {
		texts = append(texts, textOf(n))
	}
	return strings.Join(texts, "; ")
}

// told is a text of anything; nil and empty lists are told alike.
func told(x any) string { return fmt.Sprintf("%+v", x) }

// desk is a book beside the model, and another book that is never asked for what is refused.
type desk struct {
	t       *testing.T
	promise string
	b, twin *Book
	m       *model
	notes   []api.Note
}

func begin(t *testing.T, promise string, id int, p api.Plan) *desk {
	t.Helper()
	b, code := New(id, p)
	twin, again := New(id, p)
	if b == nil || twin == nil || code != api.OK || again != api.OK {
		t.Fatalf("P16.1: New(%d, %+v): %d", id, p, code)
	}
	d := &desk{t: t, promise: promise, b: b, twin: twin, m: newModel(id, p)}
	d.stands()
	return d
}

// at is a book that has taken these notes, of run 1.
func at(t *testing.T, promise string, p api.Plan, ahead string) *desk {
	t.Helper()
	d := begin(t, promise, 1, p)
	d.takes(storyOf(ahead)...)
	return d
}

// fork is another desk that has come to the same.
func (d *desk) fork() *desk {
	d.t.Helper()
	c := begin(d.t, d.promise, d.m.id, d.m.p)
	c.takes(d.notes...)
	return c
}

func (d *desk) story() string { return fmt.Sprintf("%+v: %s", d.m.p, textsOf(d.notes)) }

// add hands a note to the book and to the model.
func (d *desk) add(n api.Note) api.Errno {
	d.t.Helper()
	want := d.m.add(n)
	if got := d.b.Add(n); got != want {
		d.t.Fatalf("%s: %s: then %s: %d; want %d", d.promise, d.story(), textOf(n), got, want)
	}
	if want == api.OK {
		if got := d.twin.Add(n); got != api.OK {
			d.t.Fatalf("%s: %s: then %s: %d, by the book that was never asked for what is refused", d.promise, d.story(), textOf(n), got)
		}
		d.notes = append(d.notes, n)
	}
	d.stands()
	return want
}

func (d *desk) takes(notes ...api.Note) {
	d.t.Helper()
	for _, n := range notes {
		if code := d.add(n); code != api.OK {
			d.t.Fatalf("%s: %s: then %s: %d", d.promise, d.story(), textOf(n), code)
		}
	}
}

func (d *desk) refuses(notes ...api.Note) {
	d.t.Helper()
	for _, n := range notes {
		if code := d.add(n); code != api.ErrHistoryNote {
			d.t.Fatalf("%s: %s: then %s: %d", d.promise, d.story(), textOf(n), code)
		}
	}
}

// stands holds Run and Ended against the model, and all that the book has against its twin.
func (d *desk) stands() {
	d.t.Helper()
	if got, want := told(d.b.Run()), told(d.m.run()); got != want {
		d.t.Fatalf("P16.3: %s: Run is %s; want %s", d.story(), got, want)
	}
	if got := d.b.Ended(); got != d.m.closed {
		d.t.Fatalf("P16.3: %s: Ended is %v", d.story(), got)
	}
	if !reflect.DeepEqual(d.b, d.twin) {
		d.t.Fatalf("P16.2: %s: what is refused has changed the book", d.story())
	}
}

// fields are pointers to all of a note.
func fields(n *api.Note) []*int {
	return []*int{&n.Kind, &n.Time, &n.Run, &n.Node, &n.Attempt, &n.Token, &n.Due, &n.Why}
}

// turned are notes that differ from one in one field.
func turned(n api.Note) (list []api.Note) {
	for i := range fields(&n) {
		was := *fields(&n)[i]
		for _, to := range []int{was - 1, was + 1, 0, 1, 2, 3, -1, 1 << 40, 1<<40 + 1, 1 << 62, 1<<62 + 1, math.MaxInt, math.MinInt} {
			if to != was {
				*fields(&n)[i] = to
				list = append(list, n)
			}
		}
		if i == 0 {
			for kind := range 14 {
				if kind != was {
					n.Kind = kind
					list = append(list, n)
				}
			}
		}
		*fields(&n)[i] = was
	}
	return list
}

// near are the times about which the next note may come.
func (d *desk) near() []int {
	from, to := d.m.bounds()
	list := []int{from - 1, from, from + 1, d.m.last, to - 1, to, to + 1}
	slices.Sort(list)
	return slices.Compact(list)
}

// probe asks for notes that may not come: those that may, each turned in a field, at other times too. It tells how many were refused.
func (d *desk) probe() (refused int) {
	d.t.Helper()
	options := map[int][]option{}
	mayCome := func(n api.Note) bool {
		list, ok := options[n.Time]
		if !ok {
			list = d.m.options(n.Time)
			options[n.Time] = list
		}
		return slices.ContainsFunc(list, func(o option) bool { return o.has(n) })
	}
	want := api.ErrHistoryNote
	if d.m.gone {
		want = api.ErrHistoryRest
	}
	for _, time := range d.near() {
		bases := []api.Note{{Kind: 1, Time: time, Run: d.m.id, Due: time + d.m.p.Deadline}, {Kind: 11, Time: time, Run: d.m.id}, {Kind: 10, Time: time, Run: d.m.id, Why: 3}}
		for _, o := range d.m.options(time) {
			bases = append(bases, o.Note)
		}
		for _, s := range d.m.owed {
			bases = append(bases, s.Note)
		}
		for _, base := range bases {
			for _, n := range append(turned(base), base) {
				if mayCome(n) {
					continue
				}
				refused++
				if got := d.b.Add(n); got != want {
					d.t.Fatalf("%s: %s: then %s: %d; want %d", d.promise, d.story(), textOf(n), got, want)
				}
			}
		}
	}
	d.stands()
	return refused
}

// anyPlan is one of so many nodes.
func anyPlan(r *rand.Rand, nodes int) api.Plan {
	p := api.Plan{Name: "p", Deadline: 5 + r.Intn(60), Nodes: make([]api.Node, nodes)}
	if r.Intn(8) == 0 {
		p.Deadline = 1 << (10 + r.Intn(31))
	}
	order := r.Perm(nodes) // an edge leads from a node to one that stands ahead of it here
	for place, i := range order {
		n := api.Node{Name: fmt.Sprint("n", i), Lane: r.Intn(3), Budget: 1 + r.Intn(4), Close: 1 + r.Intn(9), Base: 1 + r.Intn(3), Jitter: r.Intn(4)}
		n.Cap = n.Base + r.Intn(9)
		if r.Intn(2) == 0 {
			n.Beat = 1 + r.Intn(6)
		}
		if r.Intn(12) == 0 {
			n.Close, n.Jitter = 1<<(30+r.Intn(11)), 1<<(30+r.Intn(11))
		}
		for _, on := range order[:place] {
			switch r.Intn(8 + nodes/2) {
			case 0, 1, 2:
				n.Needs = append(n.Needs, on)
			case 3:
				n.After = append(n.After, on)
			}
		}
		slices.Sort(n.Needs)
		slices.Sort(n.After)
		p.Nodes[i] = n
	}
	return p
}

// anyNext is a note that may come, and whether there is one.
func (d *desk) anyNext(r *rand.Rand) (api.Note, bool) {
	from, to := d.m.bounds()
	if from > to {
		return api.Note{}, false
	}
	time := from
	switch r.Intn(4) {
	case 0:
		time = to
	case 1:
		time += r.Intn(min(5, to-from+1))
	}
	if d.m.status == 0 {
		time = []int{0, r.Intn(50), r.Intn(to + 1), to}[r.Intn(4)]
	}
	if d.m.closed {
		time = []int{from, from + r.Intn(20), to}[r.Intn(3)]
	}
	list := d.m.options(min(time, to))
	pick := list[r.Intn(len(list))]
	if pick.Kind == 8 && pick.Why == 5 && r.Intn(20) > 0 {
		pick = list[0]
	}
	n := pick.Note
	n.Due += r.Intn(pick.latest - pick.Due + 1)
	if r.Intn(3) == 0 {
		n.Due = pick.latest
	}
	if n.Kind == 3 && r.Intn(4) == 0 {
		n.Token += r.Intn(min(9, pick.highest-pick.Token+1))
	}
	return n, true
}

// course is a story of so many notes at most, by chance, that is taken.
func course(r *rand.Rand, d *desk, most int) {
	d.t.Helper()
	for range most {
		n, ok := d.anyNext(r)
		if !ok {
			return
		}
		d.takes(n)
	}
}
