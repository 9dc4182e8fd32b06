package crew

import (
	"encoding/binary"
	"fmt"
	"hash/crc32"
	"math"
	"math/rand"
	"slices"
	"strings"
	"testing"

	"escapement/api"
	"escapement/codec"
	"escapement/disk"
	"escapement/durable"
	"escapement/engine"
	"escapement/image"
	"escapement/journal"
)

const big = 1 << 20

// The model goes by the chapter's words, with the library's own sum; all that it does it does one behind the other.

func castagnoli(text string) uint32 {
	return crc32.Checksum([]byte(text), crc32.MakeTable(crc32.Castagnoli))
}

func modelWork(name string, inputs ...string) string {
	text := name
	for _, input := range inputs {
		text += string([]byte{byte(len(input) % 256)}) + input
	}
	return string(binary.BigEndian.AppendUint32(nil, castagnoli(text)))
}

// modelResults finds each result by going down what its node needs.
func modelResults(p api.Plan) []string {
	known := map[int]string{}
	var result func(node int) string
	result = func(node int) string {
		if _, there := known[node]; !there {
			var inputs []string
			for _, on := range p.Nodes[node].Needs {
				inputs = append(inputs, result(on))
			}
			known[node] = modelWork(p.Nodes[node].Name, inputs...)
		}
		return known[node]
	}
	var list []string
	for node := range p.Nodes {
		list = append(list, result(node))
	}
	return list
}

// mix is chapter 9's Mix, by its words.
func mix(luck, x uint64) uint64 {
	z := (luck + 0x9e3779b97f4a7c15) ^ x
	z = (z ^ (z >> 30)) * 0xbf58476d1ce4e5b9
	z = (z ^ (z >> 27)) * 0x94d049bb133111eb
	return z ^ (z >> 31)
}

// way tells how a worker tells, by a seed: 0 fails, 1 shows a sign of life first, 2 is silent, all others complete.
func way(seed uint64, worker int) int {
	if seed == 0 {
		return 7
	}
	return int(mix(seed, uint64(worker)) % 8)
}

// seeker is a lane that a worker is to poll: the first with something ready.
func seeker(ready func(lane int) int, seed uint64, worker int) (int, bool) {
	for lane, left := (worker+int(seed%16))%16, 16; left > 0; lane, left = (lane+1)%16, left-1 {
		if ready(lane) > 0 {
			return lane, true
		}
	}
	return 0, false
}

// modelRound is a round, and all that it has asked.
func modelRound(s *durable.Store, workers int, seed uint64) (answers []api.Answer, asked []api.Op, code api.Errno) {
	ask := func(o api.Op) bool {
		a := s.Do(o)
		asked, answers = append(asked, o), append(answers, a)
		if a.Code == 54 || a.Code == 56 || a.Code == 61 || a.Code == 170 {
			answers, code = nil, a.Code
		}
		return code == api.OK
	}
	var tasks [16]api.Task
	for i := range workers {
		lane, there := seeker(s.Ready, seed, i)
		if !there {
			continue
		}
		if !ask(api.Op{Kind: api.OpPoll, Lane: lane, Worker: i}) {
			return
		}
		tasks[i] = answers[len(answers)-1].Task
	}
	for i, task := range tasks {
		if task.Token == 0 {
			continue
		}
		for _, o := range modelWords(task, way(seed, i)) {
			if !ask(o) {
				return
			}
		}
	}
	return
}

func modelWords(task api.Task, way int) []api.Op {
	var inputs []string
	for _, b := range task.Inputs {
		inputs = append(inputs, string(b))
	}
	complete := api.Op{Kind: api.OpComplete, Token: task.Token, Result: []byte(modelWork(task.Name, inputs...))}
	switch way {
	case 0:
		return []api.Op{{Kind: api.OpFail, Token: task.Token}}
	case 1:
		return []api.Op{{Kind: api.OpBeat, Token: task.Token}, complete}
	case 2:
		return nil
	}
	return []api.Op{complete}
}

// desk has a store that is asked for rounds beside one, on a disk that is used alike, that the model asks.
type desk struct {
	t       *testing.T
	promise string
	d, twin *disk.Disk
	s       *durable.Store
	other   *durable.Store
	story   []string
	ways    [8]int // how often a worker had to tell so
}

// on is a desk with what a disk holds.
func on(t *testing.T, promise string, d *disk.Disk) *desk {
	t.Helper()
	k := &desk{t: t, promise: promise, d: d, twin: d.Copy()}
	k.open()
	return k
}

// with is a desk whose stores have done operations.
func with(t *testing.T, promise string, ops ...api.Op) *desk {
	t.Helper()
	return on(t, promise, empty(t, big)).pass(ops...)
}

func (k *desk) note(format string, words ...any) {
	k.story = append(k.story, fmt.Sprintf(format, words...))
}

func (k *desk) fatal(format string, words ...any) {
	k.t.Helper()
	k.t.Fatalf(k.promise+": "+format+"\nstory: %v", append(words, k.story)...)
}

func (k *desk) open() {
	k.t.Helper()
	k.note("Open")
	k.s, k.other = opened(k.t, k.d), opened(k.t, k.twin)
	k.alike()
}

func (k *desk) arm(calls int) {
	k.note("Arm %d", calls)
	k.d.Arm(calls)
	k.twin.Arm(calls)
}

func (k *desk) crash(fate ...int) {
	k.note("Crash %v", fate)
	k.d.Crash(fate)
	k.twin.Crash(fate)
}

func (k *desk) do(o api.Op) api.Answer {
	k.t.Helper()
	a, want := k.s.Do(o), k.other.Do(o)
	k.note("Op %d of %d: %d", o.Kind, o.Run+o.Token+o.Ticks, a.Code)
	if told(a) != told(want) {
		k.fatal("%+v; want %+v", a, want)
	}
	k.alike()
	return a
}

func (k *desk) pass(ops ...api.Op) *desk {
	k.t.Helper()
	for _, o := range ops {
		if a := k.do(o); a.Code != api.OK {
			k.fatal("%+v: %d", o, a.Code)
		}
	}
	return k
}

// round asks for one, and holds answers, states and disks against the model's; what was asked.
func (k *desk) round(workers int, seed uint64) ([]api.Answer, []api.Op, api.Errno) {
	k.t.Helper()
	answers, code := Round(k.s, workers, seed)
	want, asked, wanted := modelRound(k.other, workers, seed)
	k.note("Round of %d, seed %d: %d of %d, %d", workers, seed, len(want), len(asked), wanted)
	if told(answers) != told(want) || code != wanted {
		k.fatal("P19.3: %+v, %d; want %+v, %d", answers, code, want, wanted)
	}
	for _, o := range asked {
		if o.Kind == api.OpPoll {
			k.ways[way(seed, o.Worker)]++
		}
	}
	k.alike()
	return answers, asked, code
}

// rounds asks for one that ends well, and tells it in short.
func (k *desk) rounds(workers int, seed uint64, want string) []api.Answer {
	k.t.Helper()
	answers, asked, code := k.round(workers, seed)
	if got := brief(asked, answers); got != want || code != api.OK {
		k.fatal("P19.3: %s, %d; want %s", got, code, want)
	}
	return answers
}

// ends asks for one that ends by a code: no answers.
func (k *desk) ends(workers int, seed uint64, code api.Errno) {
	k.t.Helper()
	if answers, _, got := k.round(workers, seed); len(answers) != 0 || got != code {
		k.fatal("P19.3: %+v, %d; want %d", answers, got, code)
	}
}

// leaves holds that a call changes nothing, neither in the store nor on the disk.
func (k *desk) leaves(call func()) {
	k.t.Helper()
	s, d := told(k.s.State()), whole(k.d)
	call()
	if told(k.s.State()) != s || whole(k.d) != d {
		k.fatal("the store has become %s; it was %s", told(k.s.State()), s)
	}
}

func (k *desk) alike() {
	k.t.Helper()
	if got, want := told(k.s.State()), told(k.other.State()); got != want {
		k.fatal("the store has %s; want %s", got, want)
	}
	if got, want := whole(k.d), whole(k.twin); got != want {
		k.fatal("the disk has %s; want %s", got, want)
	}
}

// honest holds the results of all runs that have succeeded against their plans' (P19.4), and tells how many have.
func (k *desk) honest() int {
	k.t.Helper()
	return honest(k.t, k.promise+fmt.Sprint(k.story), k.s)
}

func honest(t *testing.T, promise string, s *durable.Store) (succeeded int) {
	t.Helper()
	for _, r := range s.State().Runs {
		if r.Status != api.RunSucceeded {
			continue
		}
		succeeded++
		results, code := Results(r.Plan)
		if code != api.OK || len(results) != len(r.Nodes) {
			t.Fatalf("%s: P19.2: %x, %d", promise, results, code)
		}
		for i, n := range r.Nodes {
			if string(n.Result) != string(results[i]) {
				t.Fatalf("%s: P19.4: run %d, node %d has %x; its plan's is %x", promise, r.ID, i, n.Result, results[i])
			}
		}
	}
	return succeeded
}

// Operations.

func submit(p api.Plan) api.Op { return api.Op{Kind: api.OpSubmit, Plan: p} }

func poll(lane int) api.Op { return api.Op{Kind: api.OpPoll, Lane: lane, Worker: 77} }

func tick(ticks int) api.Op { return api.Op{Kind: api.OpTick, Ticks: ticks} }

func fail(token int) api.Op { return api.Op{Kind: api.OpFail, Token: token} }

func cancel(run int) api.Op { return api.Op{Kind: api.OpCancel, Run: run} }

func draw(luck uint64) api.Op { return api.Op{Kind: api.OpDraw, Luck: luck} }

// Plans of the examples' form.

func nodeOf(name string, needs ...int) api.Node {
	return api.Node{Name: name, Budget: 2, Close: 10, Base: 4, Cap: 8, Needs: needs}
}

func of(nodes ...api.Node) api.Plan { return api.Plan{Name: "p", Deadline: 100, Nodes: nodes} }

// line is the examples': a, and b that needs it.
func line() api.Plan { return of(nodeOf("a"), nodeOf("b", 0)) }

// row has so many nodes, each of which needs the one ahead of it.
func row(nodes int) api.Plan {
	p := of()
	for i := range nodes {
		p.Nodes = append(p.Nodes, nodeOf(fmt.Sprint("n", i)))
		if i > 0 {
			p.Nodes[i].Needs = []int{i - 1}
		}
	}
	return p
}

// lanes has a node without an edge in each of these lanes.
func lanes(list ...int) api.Plan {
	p := of()
	for i, lane := range list {
		n := nodeOf(fmt.Sprint("n", i))
		n.Lane = lane
		p.Nodes = append(p.Nodes, n)
	}
	return p
}

// plain has so many nodes in lane 0 without an edge.
func plain(nodes int) api.Plan { return lanes(make([]int, nodes)...) }

// beating is a plan all of whose nodes want signs of life.
func beating(p api.Plan) api.Plan {
	p.Nodes = slices.Clone(p.Nodes)
	for i := range p.Nodes {
		p.Nodes[i].Beat = 3
	}
	return p
}

// anyPlan is one that may be, whose edges lead to lower numbers and to higher ones.
func anyPlan(r *rand.Rand, most int) api.Plan {
	p := of()
	place := r.Perm(1 + r.Intn(most)) // who stands ahead of whom
	for i := range place {
		n := api.Node{Name: fmt.Sprint("n", i, strings.Repeat("x", r.Intn(9))), Lane: r.Intn(16), Budget: 1 + r.Intn(4), Close: 1 + r.Intn(9), Beat: max(0, r.Intn(7)-3), Base: 1 + r.Intn(2), Cap: 2 + r.Intn(4), Jitter: r.Intn(3)}
		for on := range place {
			switch choice := r.Intn(1 + max(5, len(place)/2)); {
			case place[on] >= place[i]:
			case choice == 0:
				n.Needs = append(n.Needs, on)
			case choice == 1:
				n.After = append(n.After, on)
			}
		}
		p.Nodes = append(p.Nodes, n)
	}
	return p
}

func chance(seed int) *rand.Rand { return rand.New(rand.NewSource(int64(seed))) }

// anyFate is a fate of some length, with numbers near and far.
func anyFate(r *rand.Rand) []int {
	fate := make([]int, r.Intn(4))
	for i := range fate {
		fate[i] = []int{0, 1, r.Intn(150), math.MaxInt}[r.Intn(4)]
	}
	return fate
}

// Disks and stores.

func empty(t *testing.T, capacity int) *disk.Disk {
	t.Helper()
	d, code := disk.New(capacity)
	if code != api.OK {
		t.Fatal(code)
	}
	return d
}

func opened(t *testing.T, d *disk.Disk) *durable.Store {
	t.Helper()
	s, code := durable.Open(d)
	if code != api.OK {
		t.Fatalf("Open: %d", code)
	}
	return s
}

// stateOf is that of an engine that was told operations.
func stateOf(t *testing.T, ops ...api.Op) api.State {
	t.Helper()
	e := engine.New()
	for _, o := range ops {
		if a := e.Do(o); a.Code != api.OK {
			t.Fatalf("%+v: %d", o, a.Code)
		}
	}
	return e.State()
}

// standing is a disk that holds an engine's state, in a journal that has so many numbers of records left.
func standing(t *testing.T, s api.State, numbers int) *disk.Disk {
	t.Helper()
	b, code := image.Bytes(s)
	if code != api.OK {
		t.Fatalf("a state of this test may not be: %+v: %d", s, code)
	}
	base := uint64(api.MaxCount + 1 - numbers)
	head := binary.LittleEndian.AppendUint64([]byte("ESC1"), 7)
	head = binary.LittleEndian.AppendUint64(head, base)
	head = binary.LittleEndian.AppendUint32(head, castagnoli(string(head)))
	lead := binary.LittleEndian.AppendUint32(nil, uint32(len(b)))
	lead = binary.LittleEndian.AppendUint64(append(lead, 2), base)
	lead = binary.LittleEndian.AppendUint32(lead, castagnoli(string(lead)+string(b)))
	d := empty(t, big)
	for _, code := range []api.Errno{d.Create(7), d.Append(7, slices.Concat(head, lead, b)), d.Sync()} {
		if code != api.OK {
			t.Fatal(code)
		}
	}
	return d
}

// laid are the operations that a disk holds behind its image.
func laid(t *testing.T, d *disk.Disk) (list []api.Op) {
	t.Helper()
	j, code := journal.Open(d.Copy())
	if code != api.OK {
		t.Fatal(code)
	}
	for _, b := range j.Records() {
		o, code := codec.ReadOp(b)
		if code != api.OK {
			t.Fatalf("a record is no operation: %x", b)
		}
		list = append(list, o)
	}
	return list
}

// whole tells all of a disk: what is there, what is safe, and whether the power is on.
func whole(d *disk.Disk) string {
	var b strings.Builder
	most := math.MaxInt
	fmt.Fprint(&b, d.Down(), shown(d))
	for _, fate := range [][]int{nil, {most, most, most, most}} {
		c := d.Copy()
		c.Crash(fate)
		fmt.Fprint(&b, "; ", shown(c))
	}
	return b.String()
}

func shown(d *disk.Disk) string {
	var b strings.Builder
	list, _ := d.List()
	for _, seg := range list {
		text, _ := d.Read(seg)
		fmt.Fprintf(&b, " %d: %x", seg, text)
	}
	return b.String()
}

// told is anything as text; nil and empty are one there.
func told(x any) string { return fmt.Sprintf("%+v", x) }

// brief tells what was asked, and what it was answered, where that is not OK: a poll by its lane and worker, all else by its token.
func brief(asked []api.Op, answers []api.Answer) string {
	var words []string
	for i, o := range asked {
		word := map[int]string{api.OpBeat: "beat", api.OpComplete: "done", api.OpFail: "fail"}[o.Kind] + fmt.Sprint(" ", o.Token)
		if o.Kind == api.OpPoll {
			word = fmt.Sprint("poll ", o.Lane, " by ", o.Worker)
		}
		if i < len(answers) && answers[i].Code != api.OK {
			word += fmt.Sprint(" refused ", int(answers[i].Code))
		}
		words = append(words, word)
	}
	return strings.Join(words, ", ")
}

func is(t *testing.T, promise string, got, want api.Errno) {
	t.Helper()
	if got != want {
		t.Errorf("%s: %d; want %d", promise, got, want)
	}
}
