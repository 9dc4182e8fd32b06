package front

import (
	"encoding/binary"
	"fmt"
	"math"
	"math/rand"
	"reflect"
	"strings"
	"testing"

	"escapement/api"
	"escapement/cadence"
	"escapement/codec"
	"escapement/crew"
	"escapement/disk"
	"escapement/durable"
)

const (
	count = 1 << 40 // the greatest run and the greatest number of workers, as the chapter writes them
	late  = 1 << 62 // the last tick
	big   = 1 << 20
)

// The model of bytes goes by the chapter's table, with chapter 12's bytes of whole operations and plans; it knows no form.

// empty tells whether a value is zero, where a list without things is; it looks at all fields, whatever they are called.
func empty(x reflect.Value) bool {
	switch x.Kind() {
	case reflect.Struct:
		for i := range x.NumField() {
			if !empty(x.Field(i)) {
				return false
			}
		}
		return true
	case reflect.Slice:
		return x.Len() == 0
	}
	return x.IsZero()
}

// unused is a request without its kind, and without what that uses.
func unused(a api.Ask) api.Ask {
	switch a.Kind {
	case 1:
		a.Op = api.Op{}
	case 3:
		a.Run = 0
	case 4:
		a.Schedule = api.Schedule{}
	case 5:
		a.Name = ""
	case 7:
		a.Workers, a.Seed = 0, 0
	}
	a.Kind = 0
	return a
}

func within(n, least, most int) bool { return n >= least && n <= most }

// mayBe tells whether a request has bytes.
func mayBe(a api.Ask) bool {
	if !within(a.Kind, 1, 7) || !empty(reflect.ValueOf(unused(a))) {
		return false
	}
	switch s := a.Schedule; a.Kind {
	case 1:
		return codec.Check(a.Op) == api.OK
	case 3:
		return within(a.Run, 1, count)
	case 4:
		_, code := codec.PlanBytes(s.Plan)
		return len(s.Name) <= 20 && len(s.Cron) <= 1024 && code == api.OK && within(s.From, 0, late)
	case 5:
		return len(a.Name) <= 20
	case 7:
		return within(a.Workers, 0, count)
	}
	return true
}

func number(b []byte, n int) []byte { return binary.AppendUvarint(b, uint64(n)) }

func text(b []byte, s string) []byte { return append(number(b, len(s)), s...) }

// modelBytes are those of a request that may be.
func modelBytes(a api.Ask) []byte {
	b := []byte{byte(a.Kind)}
	switch s := a.Schedule; a.Kind {
	case 1:
		op, _ := codec.OpBytes(a.Op)
		return append(b, op...)
	case 3:
		return number(b, a.Run)
	case 4:
		plan, _ := codec.PlanBytes(s.Plan)
		return number(append(text(text(b, s.Name), s.Cron), plan...), s.From)
	case 5:
		return text(b, a.Name)
	case 7:
		return binary.LittleEndian.AppendUint64(number(b, a.Workers), a.Seed)
	}
	return b
}

// cut takes a number off bytes: just if it stands as it is laid.
func cut(b []byte, least, most int) (int, []byte, bool) {
	x, size := binary.Uvarint(b)
	if size <= 0 || x > math.MaxInt || size != len(number(nil, int(x))) || !within(int(x), least, most) {
		return 0, nil, false
	}
	return int(x), b[size:], true
}

func cutText(b []byte, most int) (string, []byte, bool) {
	n, rest, ok := cut(b, 0, most)
	if !ok || n > len(rest) {
		return "", nil, false
	}
	return string(rest[:n]), rest[n:], true
}

// modelRead is the request whose bytes these are, if there is one.
func modelRead(b []byte) (api.Ask, bool) {
	kind, rest, ok := cut(b, 1, 7)
	a := api.Ask{Kind: kind}
	switch kind {
	case 1:
		var code api.Errno
		a.Op, code = codec.ReadOp(rest)
		ok, rest = code == api.OK, nil
	case 3:
		a.Run, rest, ok = cut(rest, 1, count)
	case 4:
		a.Schedule, ok = modelSchedule(rest)
		rest = nil
	case 5:
		a.Name, rest, ok = cutText(rest, 20)
	case 7:
		if a.Workers, rest, ok = cut(rest, 0, count); ok && len(rest) >= 8 {
			a.Seed, rest = binary.LittleEndian.Uint64(rest), rest[8:]
		} else {
			ok = false
		}
	}
	if !ok || len(rest) > 0 {
		return api.Ask{}, false
	}
	return a, true
}

// modelSchedule tries each place where the plan may end: behind it stands a number of at most nine bytes.
func modelSchedule(b []byte) (s api.Schedule, ok bool) {
	if s.Name, b, ok = cutText(b, 20); !ok {
		return s, false
	}
	if s.Cron, b, ok = cutText(b, 1024); !ok {
		return s, false
	}
	for end := max(0, len(b)-9); end < len(b); end++ {
		p, code := codec.ReadPlan(b[:end])
		from, rest, ok := cut(b[end:], 0, late)
		if code == api.OK && ok && len(rest) == 0 {
			s.Plan, s.From = p, from
			return s, true
		}
	}
	return s, false
}

// full makes each list one that is there, so that nil and empty are one.
func full(a api.Ask) api.Ask {
	a.Op.Result = append([]byte{}, a.Op.Result...)
	for _, p := range []*api.Plan{&a.Op.Plan, &a.Schedule.Plan} {
		nodes := []api.Node{}
		for _, n := range p.Nodes {
			n.Needs, n.After = append([]int{}, n.Needs...), append([]int{}, n.After...)
			nodes = append(nodes, n)
		}
		p.Nodes = nodes
	}
	return a
}

func sameAsk(a, b api.Ask) bool { return reflect.DeepEqual(full(a), full(b)) }

// Each asks the package, and holds the answer against the model.

func lays(t *testing.T, a api.Ask) bool {
	t.Helper()
	b, code := Bytes(a)
	if !mayBe(a) {
		if len(b) != 0 || code != api.ErrFrontAsk {
			t.Fatalf("P20.1: Bytes(%s): %x, %d; want ErrFrontAsk", brief(a), b, code)
		}
		return false
	}
	if want := modelBytes(a); string(b) != string(want) || code != api.OK {
		t.Fatalf("P20.1: Bytes(%s): %x, %d; want %x", brief(a), b, code, want)
	}
	back, code := Read(b)
	if !sameAsk(back, a) || code != api.OK {
		t.Fatalf("P20.6: Read of the bytes of %s: %s, %d", brief(a), brief(back), code)
	}
	return true
}

func reads(t *testing.T, b []byte) bool {
	t.Helper()
	want, ok := modelRead(b)
	a, code := Read(b)
	if !ok {
		if !empty(reflect.ValueOf(a)) || code != api.ErrFrontAsk {
			t.Fatalf("P20.2: Read(%x): %s, %d; want ErrFrontAsk", b, brief(a), code)
		}
		return false
	}
	if !sameAsk(a, want) || code != api.OK {
		t.Fatalf("P20.2: Read(%x): %s, %d; want %s", b, brief(a), code, brief(want))
	}
	if back, code := Bytes(a); string(back) != string(b) || code != api.OK {
		t.Fatalf("P20.6: Bytes of what %x is read as: %x, %d", b, back, code)
	}
	return true
}

func brief(a api.Ask) string { return fmt.Sprintf("%.400s", fmt.Sprintf("%+q", fmt.Sprintf("%+v", a))) }

// The model of a front is the layers below, called one by one.
type layers struct {
	s *durable.Store
	b *cadence.Book
}

func (l *layers) do(a api.Ask) (r api.Reply) {
	switch a.Kind {
	case 1:
		r.Answer = l.s.Do(a.Op)
		r.Code = r.Answer.Code
	case 2:
		r.Code = l.s.Compact()
	case 3:
		r.Run, r.Code = l.s.Run(a.Run)
	case 4:
		r.Code = l.b.Add(a.Schedule)
	case 5:
		r.Code = l.b.Drop(a.Name)
	case 6:
		r.Fired, r.Code = l.b.Fire(l.s)
	case 7:
		r.Answers, r.Code = crew.Round(l.s, a.Workers, a.Seed)
	}
	return r
}

// desk has a front beside the model, on a disk that is used alike.
type desk struct {
	t       *testing.T
	promise string
	d, twin *disk.Disk
	f       *Front
	l       *layers
	story   []string
}

func on(t *testing.T, promise string, d *disk.Disk) *desk {
	t.Helper()
	k := &desk{t: t, promise: promise, d: d, twin: d.Copy()}
	k.open()
	return k
}

func (k *desk) note(format string, words ...any) {
	k.story = append(k.story, fmt.Sprintf(format, words...))
}

func (k *desk) fatal(format string, words ...any) {
	k.t.Helper()
	k.t.Fatalf(k.promise+": "+format+"\nstory: %s", append(words, strings.Join(k.story, "\n"))...)
}

func (k *desk) open() {
	k.t.Helper()
	if code := k.opens(); code != api.OK {
		k.fatal("New: %d", code)
	}
}

// opens lets a front be made anew, if the disk has power for it; else the old one stays.
func (k *desk) opens() api.Errno {
	k.t.Helper()
	f, code := New(k.d)
	s, want := durable.Open(k.twin)
	k.note("New: %d", want)
	if code != want || (f == nil) == (code == api.OK) {
		k.fatal("New: %v, %d; want %d", f, code, want)
	}
	if code == api.OK {
		k.f, k.l = f, &layers{s, cadence.New()}
	}
	k.alike()
	return code
}

func (k *desk) arm(calls int) {
	k.note("Arm %d", calls)
	k.d.Arm(calls)
	k.twin.Arm(calls)
}

func (k *desk) crash(fate ...int) {
	k.note("Crash %v", fate)
	k.d.Crash(fate)
	k.twin.Crash(fate)
}

// do asks both, and holds the reply and the disks.
func (k *desk) do(a api.Ask) api.Reply {
	k.t.Helper()
	got, want := k.f.Do(bytesOf(k.t, a)), k.l.do(a)
	k.note("%s: %d", brief(a), want.Code)
	if told(got) != told(want) {
		k.fatal("%+v; want %+v", got, want)
	}
	k.alike()
	return got
}

// is asks for one whose code must be this.
func (k *desk) is(a api.Ask, code api.Errno) api.Reply {
	k.t.Helper()
	r := k.do(a)
	if r.Code != code {
		k.fatal("%+v; want %d", r, code)
	}
	return r
}

func (k *desk) pass(list ...api.Ask) *desk {
	k.t.Helper()
	for _, a := range list {
		k.is(a, api.OK)
	}
	return k
}

func (k *desk) alike() {
	k.t.Helper()
	if got, want := whole(k.d), whole(k.twin); got != want {
		k.fatal("the disk has %s; want %s", got, want)
	}
	if k.f == nil {
		return
	}
	for id := 1; id <= k.l.s.State().NextRun; id++ {
		run, code := k.l.s.Run(id)
		if got, want := k.f.Do(bytesOf(k.t, runOf(id))), (api.Reply{Code: code, Run: run}); told(got) != told(want) {
			k.fatal("run %d: %+v; want %+v", id, got, want)
		}
	}
}

// Requests.

func op(o api.Op) api.Ask { return api.Ask{Kind: api.AskOp, Op: o} }

func submit(p api.Plan, key string) api.Ask {
	return op(api.Op{Kind: api.OpSubmit, Plan: p, Key: key})
}

func poll(lane int) api.Ask { return op(api.Op{Kind: api.OpPoll, Lane: lane, Worker: 7}) }

func beat(token int) api.Ask { return op(api.Op{Kind: api.OpBeat, Token: token}) }

func complete(token int, result string) api.Ask {
	return op(api.Op{Kind: api.OpComplete, Token: token, Result: []byte(result)})
}

func fail(token int) api.Ask { return op(api.Op{Kind: api.OpFail, Token: token}) }

func cancel(run int) api.Ask { return op(api.Op{Kind: api.OpCancel, Run: run}) }

func forget(run int) api.Ask { return op(api.Op{Kind: api.OpForget, Run: run}) }

func draw(luck uint64) api.Ask { return op(api.Op{Kind: api.OpDraw, Luck: luck}) }

func tick(ticks int) api.Ask { return op(api.Op{Kind: api.OpTick, Ticks: ticks}) }

func compact() api.Ask { return api.Ask{Kind: api.AskCompact} }

func runOf(id int) api.Ask { return api.Ask{Kind: api.AskRun, Run: id} }

func add(name, cron string, p api.Plan, from int) api.Ask {
	return api.Ask{Kind: api.AskAdd, Schedule: api.Schedule{Name: name, Cron: cron, Plan: p, From: from}}
}

// minutely is due at each minute.
func minutely(name string) api.Ask { return add(name, "* * * * *", line(), 0) }

func drop(name string) api.Ask { return api.Ask{Kind: api.AskDrop, Name: name} }

func fire() api.Ask { return api.Ask{Kind: api.AskFire} }

func round(workers int, seed uint64) api.Ask {
	return api.Ask{Kind: api.AskCrew, Workers: workers, Seed: seed}
}

// Plans of the examples' form.

func node(name string, needs ...int) api.Node {
	return api.Node{Name: name, Budget: 2, Close: 10, Base: 4, Cap: 8, Needs: needs}
}

func of(nodes ...api.Node) api.Plan { return api.Plan{Name: "p", Deadline: 100, Nodes: nodes} }

// line is a, and b that needs it.
func line() api.Plan { return of(node("a"), node("b", 0)) }

// plain has so many nodes without an edge.
func plain(nodes int) api.Plan {
	p := of()
	for i := range nodes {
		p.Nodes = append(p.Nodes, node(fmt.Sprint("n", i)))
	}
	return p
}

// greatest has as many nodes and edges as may be, with the greatest numbers and the longest names.
func greatest() api.Plan {
	p := api.Plan{Name: strings.Repeat("p", 40), Deadline: count}
	for i := range 64 {
		n := api.Node{Name: fmt.Sprintf("%040d", i), Lane: 15, Budget: 100, Close: count, Beat: count, Base: count, Cap: count, Jitter: count}
		for on := max(0, i-4); on < i; on++ {
			n.Needs = append(n.Needs, on)
		}
		p.Nodes = append(p.Nodes, n)
	}
	return p
}

// Chance.

func chance(seed int) *rand.Rand { return rand.New(rand.NewSource(int64(seed))) }

func anyCount(r *rand.Rand) int { return r.Intn(1<<r.Intn(41) + 1) }

func anyText(r *rand.Rand, most int) string {
	b := make([]byte, r.Intn(most+1))
	r.Read(b)
	return string(b)
}

// anyPlan is one that may be; its edges lead to lower numbers.
func anyPlan(r *rand.Rand, most int) api.Plan {
	p := api.Plan{Name: fmt.Sprint("p", r.Intn(3)), Deadline: 20 + anyCount(r)/2}
	for i := range 1 + r.Intn(most) {
		n := api.Node{Name: fmt.Sprint("n", i), Lane: r.Intn(3), Budget: 1 + r.Intn(3), Close: 1 + r.Intn(90), Beat: max(0, r.Intn(9)-4), Base: 1 + r.Intn(2), Cap: 2 + r.Intn(200), Jitter: r.Intn(3)}
		for on := range i {
			switch r.Intn(5) {
			case 0:
				n.Needs = append(n.Needs, on)
			case 1:
				n.After = append(n.After, on)
			}
		}
		p.Nodes = append(p.Nodes, n)
	}
	return p
}

// anyAsk is one of a kind that may be, whatever comes of it.
func anyAsk(r *rand.Rand, kind int) api.Ask {
	a := api.Ask{Kind: kind}
	switch kind {
	case 1:
		a.Op = anyOp(r, 1+r.Intn(9))
	case 3:
		a.Run = max(1, anyCount(r))
	case 4:
		a.Schedule = api.Schedule{Name: anyText(r, 20), Cron: anyText(r, 1<<r.Intn(11)), Plan: anyPlan(r, 6), From: r.Intn(1<<r.Intn(63)) + r.Intn(2)}
	case 5:
		a.Name = anyText(r, 20)
	case 7:
		a.Workers, a.Seed = anyCount(r), r.Uint64()>>r.Intn(64)
	}
	return a
}

func anyOp(r *rand.Rand, kind int) api.Op {
	o := api.Op{Kind: kind}
	switch kind {
	case 1:
		o.Plan, o.Key = anyPlan(r, 6), anyText(r, 40)
	case 2:
		o.Lane, o.Worker = r.Intn(16), anyCount(r)
	case 3, 5:
		o.Token = max(1, anyCount(r))
	case 4:
		o.Token, o.Result = max(1, anyCount(r)), []byte(anyText(r, 64))
	case 6, 7:
		o.Run = max(1, anyCount(r))
	case 8:
		o.Luck = r.Uint64() >> r.Intn(64)
	case 9:
		o.Ticks = r.Intn(1<<r.Intn(63)) + r.Intn(2)
	}
	return o
}

// anyFate is a fate of some length, with numbers near and far.
func anyFate(r *rand.Rand) []int {
	fate := make([]int, r.Intn(4))
	for i := range fate {
		fate[i] = []int{0, 1, r.Intn(150), math.MaxInt}[r.Intn(4)]
	}
	return fate
}

// Disks and fronts.

func blank(t *testing.T, capacity int) *disk.Disk {
	t.Helper()
	d, code := disk.New(capacity)
	if code != api.OK {
		t.Fatal(code)
	}
	return d
}

func made(t *testing.T, d *disk.Disk) *Front {
	t.Helper()
	f, code := New(d)
	if code != api.OK || f == nil {
		t.Fatalf("P20.3: New: %v, %d", f, code)
	}
	return f
}

func bytesOf(t *testing.T, a api.Ask) []byte {
	t.Helper()
	b, code := Bytes(a)
	if code != api.OK {
		t.Fatalf("P20.1: Bytes(%s): %d", brief(a), code)
	}
	return b
}

// replies are what a front answers to requests.
func replies(t *testing.T, f *Front, list ...api.Ask) (all []api.Reply) {
	t.Helper()
	for _, a := range list {
		all = append(all, f.Do(bytesOf(t, a)))
	}
	return all
}

// runs tells what a front answers of the first runs.
func runs(t *testing.T, f *Front, most int) string {
	t.Helper()
	var b strings.Builder
	for id := range most {
		fmt.Fprintln(&b, told(f.Do(bytesOf(t, runOf(id+1)))))
	}
	return b.String()
}

// whole tells all of a disk: what is there, what is safe, and whether the power is on.
func whole(d *disk.Disk) string {
	var b strings.Builder
	most := math.MaxInt
	fmt.Fprint(&b, d.Down(), shown(d))
	for _, fate := range [][]int{nil, {most, most, most, most}} {
		c := d.Copy()
		c.Crash(fate)
		fmt.Fprint(&b, "; ", shown(c))
	}
	return b.String()
}

func shown(d *disk.Disk) string {
	var b strings.Builder
	list, _ := d.List()
	for _, seg := range list {
		text, _ := d.Read(seg)
		fmt.Fprintf(&b, " %d: %x", seg, text)
	}
	return b.String()
}

// told is anything as text; nil and empty are one there.
func told(x any) string { return fmt.Sprintf("%+v", x) }
