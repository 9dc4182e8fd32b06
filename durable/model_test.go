package durable

import (
	"bytes"
	"encoding/binary"
	"fmt"
	"hash/crc32"
	"maps"
	"math"
	"slices"
	"strings"
	"testing"

	"escapement/api"
	"escapement/codec"
	"escapement/disk"
	"escapement/engine"
	"escapement/image"
	"escapement/journal"
	"escapement/plan"
)

// The model goes by the chapter's words, one by one. It asks an engine that is made anew of the state what it would answer, looks in the state whether an operation turns nothing, lays it into a journal on a disk of its own, and only then tells it to its engine.
type model struct {
	e    *engine.Engine
	j    *journal.Journal
	dead bool
}

func openModel(d *disk.Disk) (*model, api.Errno) {
	j, code := journal.Open(d)
	if code != api.OK {
		return nil, code
	}
	e := engine.New()
	if b := j.Image(); len(b) > 0 {
		s, code := image.Read(b)
		if code != api.OK {
			return nil, api.ErrImageBytes
		}
		e = fromState(s)
	}
	for _, b := range j.Records() {
		o, code := codec.ReadOp(b)
		if code != api.OK {
			return nil, api.ErrDurableRecord
		}
		if a := e.Do(o); a.Code != api.OK {
			return nil, api.ErrDurableRecord
		}
	}
	return &model{e: e, j: j}, api.OK
}

func fromState(s api.State) *engine.Engine {
	e, code := engine.From(s)
	if code != api.OK {
		panic(fmt.Sprintf("no engine has the state %+v", s))
	}
	return e
}

func (m *model) Do(o api.Op) api.Answer {
	if m.dead {
		return api.Answer{Code: api.ErrDurableDead}
	}
	s := m.e.State()
	if a := fromState(s).Do(o); a.Code != api.OK || idle(s, o) {
		return a
	}
	b, code := codec.OpBytes(o)
	if code == api.OK {
		code = m.j.Append(b)
	}
	if code == api.OK {
		code = m.j.Sync()
	}
	if code != api.OK {
		m.dead = code == api.ErrDiskDown
		return api.Answer{Code: code}
	}
	return m.e.Do(o)
}

func (m *model) Compact() api.Errno {
	if m.dead {
		return api.ErrDurableDead
	}
	b, code := image.Bytes(m.e.State())
	if code == api.OK {
		code = m.j.Snapshot(b)
	}
	m.dead = code == api.ErrDiskDown
	return code
}

// idle tells whether an operation that an engine of this state lets pass turns nothing.
func idle(s api.State, o api.Op) bool {
	for _, r := range s.Runs {
		if o.Kind == api.OpSubmit && o.Key != "" && o.Key == r.Key {
			return true
		}
		for i, n := range r.Nodes {
			if o.Kind == api.OpBeat && n.State == api.NodeLeased && n.Token == o.Token {
				return r.Plan.Nodes[i].Beat == 0
			}
		}
	}
	return false
}

// Bytes as a journal lays them, by the library's sums and order of bytes.

func castagnoli(s string) uint32 {
	return crc32.Checksum([]byte(s), crc32.MakeTable(crc32.Castagnoli))
}

func four(n int) string { return string(binary.LittleEndian.AppendUint32(nil, uint32(n))) }

func eight(n int) string { return string(binary.LittleEndian.AppendUint64(nil, uint64(n))) }

// head is a segment's.
func head(seg, base int) string {
	s := "ESC1" + eight(seg) + eight(base)
	return s + four(int(castagnoli(s)))
}

func record(n int, payload string) string { return piece(1, n, payload) }

func picture(n int, payload string) string { return piece(2, n, payload) }

func piece(kind byte, n int, payload string) string {
	s := four(len(payload)) + string([]byte{kind}) + eight(n)
	return s + four(int(castagnoli(s+payload))) + payload
}

// records are pieces from a number on.
func records(from int, payloads ...string) (text string) {
	for i, payload := range payloads {
		text += record(from+i, payload)
	}
	return text
}

func bytesOf(t *testing.T, ops ...api.Op) (list []string) {
	t.Helper()
	for _, o := range ops {
		b, code := codec.OpBytes(o)
		if code != api.OK {
			t.Fatalf("an operation of this test has no bytes: %+v: %d", o, code)
		}
		list = append(list, string(b))
	}
	return list
}

func imageOf(t *testing.T, s api.State) string {
	t.Helper()
	b, code := image.Bytes(s)
	if code != api.OK {
		t.Fatalf("a state of this test may not be: %+v: %d", s, code)
	}
	return string(b)
}

// Disks.

func empty(t *testing.T, capacity int) *disk.Disk {
	t.Helper()
	d, code := disk.New(capacity)
	if code != api.OK {
		t.Fatal(code)
	}
	return d
}

// laid is a disk with these segments, all of them safe.
func laid(t *testing.T, segs map[int]string) *disk.Disk {
	t.Helper()
	d := empty(t, api.MaxDisk)
	for seg, text := range segs {
		if d.Create(seg) != api.OK || d.Append(seg, []byte(text)) != api.OK {
			t.Fatal("no such segment: ", seg)
		}
	}
	d.Sync()
	return d
}

func view(d *disk.Disk) map[int]string {
	all := map[int]string{}
	list, _ := d.List()
	for _, seg := range list {
		text, _ := d.Read(seg)
		all[seg] = string(text)
	}
	return all
}

// lies holds what stands on a disk, all of it safe, against what must.
func lies(t *testing.T, promise string, d *disk.Disk, want map[int]string) {
	t.Helper()
	c := d.Copy()
	c.Crash(nil)
	for _, got := range []map[int]string{view(d), view(c)} {
		if !maps.Equal(got, want) {
			t.Fatalf("%s: on the disk is\n%x;\nwant\n%x", promise, got, want)
		}
	}
}

// whole tells all of a disk that a later call can tell: what is there, by the fates of its copies what is safe, whether the power is on, and how long it lasts.
func whole(d *disk.Disk) string {
	var b strings.Builder
	fmt.Fprint(&b, d.Down(), " ", lasts(d), " ")
	most := math.MaxInt
	for _, fate := range [][]int{nil, {most}, {0, most}, {0, 0, most}, {2, 2, 2, 2, 2}, {most, most, most, most, most, most, most, most}} {
		c := d.Copy()
		c.Crash(fate)
		fmt.Fprint(&b, shown(c), "; ")
	}
	return b.String() + shown(d)
}

// shown tells each segment, how long it is, and its bytes by their sum.
func shown(d *disk.Disk) string {
	var b strings.Builder
	list, code := d.List()
	room, _ := d.Room()
	for _, seg := range list {
		text, _ := d.Read(seg)
		fmt.Fprintf(&b, "%d:%d:%x ", seg, len(text), castagnoli(string(text)))
	}
	fmt.Fprint(&b, "room ", room, " ", int(code))
	return b.String()
}

// lasts tells how many changing calls are done till the power goes.
func lasts(d *disk.Disk) int {
	d = d.Copy()
	for n := range 12 {
		if d.Sync() != api.OK {
			return n
		}
	}
	return 12
}

// spend lets the power of a disk go.
func spend(d *disk.Disk) *disk.Disk {
	d.Arm(0)
	d.Sync()
	return d
}

// What is told, held against each other; nil and empty are one.

func sameNode(a, b api.NodeState) bool {
	return a.State == b.State && a.Attempts == b.Attempts && a.Token == b.Token && a.Worker == b.Worker && bytes.Equal(a.Result, b.Result)
}

func sameRun(a, b api.RunState) bool {
	return a.ID == b.ID && a.Key == b.Key && plan.Same(a.Plan, b.Plan) && a.Status == b.Status && a.Submitted == b.Submitted && a.Ended == b.Ended && slices.EqualFunc(a.Nodes, b.Nodes, sameNode)
}

func sameState(a, b api.State) bool {
	return a.Now == b.Now && a.Luck == b.Luck && a.NextRun == b.NextRun && a.NextToken == b.NextToken &&
		slices.EqualFunc(a.Runs, b.Runs, sameRun) && slices.Equal(a.Ready, b.Ready) && slices.Equal(a.Timers, b.Timers)
}

func sameAnswer(a, b api.Answer) bool {
	x, y := a.Task, b.Task
	return a.Code == b.Code && a.Run == b.Run && a.Again == b.Again && slices.Equal(a.Notes, b.Notes) &&
		x.Token == y.Token && x.Run == y.Run && x.Node == y.Node && x.Name == y.Name && x.Attempt == y.Attempt && x.Until == y.Until && x.BeatBy == y.BeatBy && slices.EqualFunc(x.Inputs, y.Inputs, bytes.Equal)
}

// sameViews holds all that a store tells against an engine.
func sameViews(t *testing.T, promise string, s *Store, e *engine.Engine) {
	t.Helper()
	want := e.State()
	if got := s.State(); !sameState(got, want) {
		t.Fatalf("%s: State is %+v;\nwant %+v", promise, got, want)
	}
	if s.Now() != want.Now {
		t.Fatalf("%s: Now is %d, not %d", promise, s.Now(), want.Now)
	}
	due, ok := s.Due()
	if at, there := e.Due(); due != at || ok != there {
		t.Fatalf("%s: Due is %d, %t, not %d, %t", promise, due, ok, at, there)
	}
	for _, lane := range []int{math.MinInt, -1, 0, 1, 2, 3, 14, 15, 16, math.MaxInt} {
		if s.Ready(lane) != e.Ready(lane) {
			t.Fatalf("%s: Ready(%d) is %d, not %d", promise, lane, s.Ready(lane), e.Ready(lane))
		}
	}
	ids := []int{math.MinInt, -1, 0, want.NextRun, math.MaxInt}
	for _, r := range want.Runs {
		ids = append(ids, r.ID)
	}
	for _, id := range ids {
		got, code := s.Run(id)
		if r, wanted := e.Run(id); code != wanted || !sameRun(got, r) {
			t.Fatalf("%s: Run(%d) is %+v, %d; want %+v, %d", promise, id, got, code, r, wanted)
		}
	}
}
