package cadence

import (
	"fmt"
	"math"
	"regexp"
	"slices"
	"sort"
	"strings"
	"testing"

	"escapement/api"
	"escapement/codec"
	"escapement/cron"
	"escapement/disk"
	"escapement/durable"
	"escapement/image"
	"escapement/journal"
	"escapement/plan"
)

const (
	day     = 86400
	horizon = 4 * day // the model knows no time from here on
	big     = 1 << 20
	last    = 4611686018427387900 // the last minute that is a time
)

// The model goes by the chapter's words: schedules stand in a row as they were put in, each with all its times up to the horizon, found minute by minute, and with all times that were fired.
type model struct {
	lines []*line
}

type line struct {
	api.Schedule
	times []int
	fired []int
}

func (m *model) find(name string) int {
	return slices.IndexFunc(m.lines, func(l *line) bool { return l.Name == name })
}

func (m *model) Add(s api.Schedule) api.Errno {
	if !regexp.MustCompile(`\A[a-z0-9._-]{1,20}\z`).MatchString(s.Name) || m.find(s.Name) >= 0 {
		return api.ErrCadenceName
	}
	x, code := cron.Parse(s.Cron)
	if code != api.OK {
		return code
	}
	if _, code = plan.Check(s.Plan); code != api.OK {
		return code
	}
	if s.From < 0 || s.From > 1<<62 {
		return api.ErrCadenceTime
	}
	if len(m.lines) == 64 {
		return api.ErrCadenceFull
	}
	l := &line{Schedule: s}
	for t := 0; t < horizon; t += 60 {
		if t >= s.From && x.Matches(t) {
			l.times = append(l.times, t)
		}
	}
	m.lines = append(m.lines, l)
	return api.OK
}

func (m *model) Drop(name string) api.Errno {
	i := m.find(name)
	if i < 0 {
		return api.ErrCadenceNone
	}
	m.lines = slices.Delete(m.lines, i, i+1)
	return api.OK
}

func (m *model) Names() (names []string) {
	for _, l := range m.lines {
		names = append(names, l.Name)
	}
	sort.Strings(names)
	return names
}

func (m *model) Next(t int) (int, bool) {
	least, found := 0, false
	for _, l := range m.lines {
		for _, at := range l.times {
			if at > t && (!found || at < least) {
				least, found = at, true
			}
		}
	}
	return least, found
}

func (m *model) Due(now int) (list []api.Fired) {
	if now < 0 || now > 1<<62 {
		return nil
	}
	for _, name := range m.Names() {
		l := m.lines[m.find(name)]
		t := -1
		for _, at := range l.times {
			if at <= now {
				t = at
			}
		}
		if t >= 0 && (len(l.fired) == 0 || t > slices.Max(l.fired)) {
			list = append(list, api.Fired{Name: name, Time: t})
		}
	}
	return list
}

func (m *model) Fire(s *durable.Store) []api.Fired {
	list := m.Due(s.Now())
	for i, f := range list {
		l := m.lines[m.find(f.Name)]
		list[i].Answer = s.Do(submit(l.Plan, fmt.Sprintf("%s@%d", f.Name, f.Time)))
		if list[i].Answer.Code == api.OK {
			l.fired = append(l.fired, f.Time)
		}
	}
	return list
}

// Operations, plans and schedules.

func submit(p api.Plan, key string) api.Op { return api.Op{Kind: api.OpSubmit, Plan: p, Key: key} }

func tick(ticks int) api.Op { return api.Op{Kind: api.OpTick, Ticks: ticks} }

func cancel(run int) api.Op { return api.Op{Kind: api.OpCancel, Run: run} }

func forget(run int) api.Op { return api.Op{Kind: api.OpForget, Run: run} }

func poll(lane int) api.Op { return api.Op{Kind: api.OpPoll, Lane: lane} }

// small is the examples' p, in a lane.
func small(lane int) api.Plan {
	return api.Plan{Name: "p", Deadline: 100, Nodes: []api.Node{{Name: "a", Lane: lane, Budget: 2, Close: 10, Base: 4, Cap: 8}}}
}

// wide has so many nodes, each of which needs the one ahead of it.
func wide(nodes int) api.Plan {
	p := small(0)
	p.Nodes = nil
	for i := range nodes {
		n := small(0).Nodes[0]
		n.Name = fmt.Sprint("n", i)
		if i > 0 {
			n.Needs = []int{i - 1}
		}
		p.Nodes = append(p.Nodes, n)
	}
	return p
}

func every(name, cron string) api.Schedule {
	return api.Schedule{Name: name, Cron: cron, Plan: small(0)}
}

// minutely is due at each minute.
func minutely(name string) api.Schedule { return every(name, "* * * * *") }

// nightly is the examples' n.
func nightly() api.Schedule { return every("nightly", "30 2 * * *") }

func from(s api.Schedule, t int) api.Schedule {
	s.From = t
	return s
}

func doing(s api.Schedule, p api.Plan) api.Schedule {
	s.Plan = p
	return s
}

func with(t *testing.T, list ...api.Schedule) *Book {
	t.Helper()
	b := New()
	for _, s := range list {
		if code := b.Add(s); code != api.OK {
			t.Fatalf("P18.1: Add of %+v: %d", s, code)
		}
	}
	return b
}

// Disks and stores.

func empty(t *testing.T, capacity int) *disk.Disk {
	t.Helper()
	d, code := disk.New(capacity)
	if code != api.OK {
		t.Fatal(code)
	}
	return d
}

func opened(t *testing.T, d *disk.Disk) *durable.Store {
	t.Helper()
	s, code := durable.Open(d)
	if code != api.OK {
		t.Fatalf("Open: %d", code)
	}
	return s
}

// at is a store whose clock tells a time.
func at(t *testing.T, now int, ops ...api.Op) *durable.Store {
	t.Helper()
	s := opened(t, empty(t, big))
	pass(t, s, append([]api.Op{tick(now)}, ops...)...)
	return s
}

func pass(t *testing.T, s *durable.Store, ops ...api.Op) {
	t.Helper()
	for _, o := range ops {
		if a := s.Do(o); a.Code != api.OK {
			t.Fatalf("%+v: %d", o, a.Code)
		}
	}
}

// standing is a disk that holds an engine's state.
func standing(t *testing.T, capacity int, s api.State) *disk.Disk {
	t.Helper()
	b, code := image.Bytes(s)
	if code != api.OK {
		t.Fatalf("a state of this test may not be: %+v: %d", s, code)
	}
	d := empty(t, capacity)
	j, _ := journal.Open(d)
	if code := j.Snapshot(b); code != api.OK {
		t.Fatal(code)
	}
	return d
}

// laidOps are the operations that a disk holds behind its image.
func laidOps(t *testing.T, d *disk.Disk) (list []api.Op) {
	t.Helper()
	j, code := journal.Open(d.Copy())
	if code != api.OK {
		t.Fatal(code)
	}
	for _, b := range j.Records() {
		o, code := codec.ReadOp(b)
		if code != api.OK {
			t.Fatalf("a record is no operation: %x", b)
		}
		list = append(list, o)
	}
	return list
}

// whole tells all of a disk: what is there, what is safe, and whether the power is on.
func whole(d *disk.Disk) string {
	var b strings.Builder
	most := math.MaxInt
	fmt.Fprint(&b, d.Down(), shown(d))
	for _, fate := range [][]int{nil, {most, most, most, most}} {
		c := d.Copy()
		c.Crash(fate)
		fmt.Fprint(&b, "; ", shown(c))
	}
	return b.String()
}

func shown(d *disk.Disk) string {
	var b strings.Builder
	list, _ := d.List()
	for _, seg := range list {
		text, _ := d.Read(seg)
		fmt.Fprintf(&b, " %d: %x", seg, text)
	}
	return b.String()
}

// told is anything as text; nil and empty are one there.
func told(x any) string { return fmt.Sprintf("%+v", x) }

// wholly tells all that a book can be asked, at times near and far.
func wholly(b *Book) string {
	text := told(b.Names())
	for _, t := range []int{math.MinInt, -1, 0, 59, 60, 599, 600, 8999, 9000, 95400, 959399, 959400, 1000000, 1045800, last - 1, last, api.MaxTime, api.MaxTime + 1, math.MaxInt} {
		next, ok := b.Next(t)
		text += fmt.Sprint(" ", t, next, ok, told(b.Due(t)))
	}
	return text
}

// brief tells names, times and codes.
func brief(list []api.Fired) string {
	var words []string
	for _, f := range list {
		words = append(words, fmt.Sprintf("%s %d %d", f.Name, f.Time, f.Answer.Code))
	}
	return strings.Join(words, ", ")
}

// due holds names and times of what is due, without an answer.
func due(t *testing.T, promise string, b *Book, now int, want string) {
	t.Helper()
	var words []string
	for _, f := range b.Due(now) {
		words = append(words, fmt.Sprint(f.Name, " ", f.Time))
		if told(f) != told(api.Fired{Name: f.Name, Time: f.Time}) {
			t.Errorf("%s: Due(%d) has an answer: %+v", promise, now, f)
		}
	}
	if got := strings.Join(words, ", "); got != want {
		t.Errorf("%s: Due(%d): %q; want %q", promise, now, got, want)
	}
}

func nexts(t *testing.T, b *Book, at, want int) {
	t.Helper()
	if got, ok := b.Next(at); got != want || !ok {
		t.Errorf("P18.2: Next(%d): %d, %t; want %d", at, got, ok, want)
	}
}

func noNext(t *testing.T, b *Book, times ...int) {
	t.Helper()
	for _, at := range times {
		if got, ok := b.Next(at); got != 0 || ok {
			t.Errorf("P18.2: Next(%d): %d, %t; want none", at, got, ok)
		}
	}
}

func fires(t *testing.T, promise string, b *Book, s *durable.Store, want string) []api.Fired {
	t.Helper()
	list, code := b.Fire(s)
	if got := brief(list); got != want || code != api.OK {
		t.Fatalf("%s: Fire: %q, %d; want %q", promise, got, code, want)
	}
	for _, f := range list {
		if a := f.Answer; a.Code != api.OK && told(a) != told(api.Answer{Code: a.Code}) {
			t.Fatalf("%s: beside an error something is answered: %+v", promise, f)
		}
	}
	return list
}

func is(t *testing.T, promise string, got, want api.Errno) {
	t.Helper()
	if got != want {
		t.Errorf("%s: %d; want %d", promise, got, want)
	}
}

// leaves holds that a call changes nothing of a book.
func leaves(t *testing.T, b *Book, call func()) {
	t.Helper()
	ahead := wholly(b)
	call()
	if got := wholly(b); got != ahead {
		t.Errorf("P18.9: the book has become %s; it was %s", got, ahead)
	}
}
