package journal

import (
	"encoding/binary"
	"fmt"
	"hash/crc32"
	"math"
	"math/rand"
	"slices"
	"strings"
	"testing"

	"escapement/api"
	"escapement/disk"
)

// The model goes by the chapter's words: it cuts a segment into all its
// pieces, looks for B from the greatest segment down, then goes up from it,
// and does each call on its disk as the chapter lists them. Its sums and its
// order of bytes are the library's.

func castagnoli(s string) uint32 {
	return crc32.Checksum([]byte(s), crc32.MakeTable(crc32.Castagnoli))
}

func four(n uint32) string { return string(binary.LittleEndian.AppendUint32(nil, n)) }

func eight(n uint64) string { return string(binary.LittleEndian.AppendUint64(nil, n)) }

// front is a segment's head.
func front(seg, base uint64) string {
	s := "ESC1" + eight(seg) + eight(base)
	return s + four(castagnoli(s))
}

// record and image are pieces.
func record(n uint64, payload string) string { return piece(1, n, payload) }

func image(n uint64, payload string) string { return piece(2, n, payload) }

func piece(kind byte, n uint64, payload string) string {
	s := four(uint32(len(payload))) + string([]byte{kind}) + eight(n)
	return s + four(castagnoli(s+payload)) + payload
}

// part is a piece of a segment: it ends at a place.
type part struct {
	kind    byte
	payload string
	end     int
}

// parts are a segment's pieces, and its base; no base: its head is not right.
func parts(seg int, text string) (uint64, []part) {
	if len(text) < 24 {
		return 0, nil
	}
	base := binary.LittleEndian.Uint64([]byte(text[12:20]))
	if text[:4] != "ESC1" || text[4:12] != eight(uint64(seg)) || base == 0 || base > 1<<40+1 || text[20:24] != four(castagnoli(text[:20])) {
		return 0, nil
	}
	var all []part
	for n, at := base, 24; ; {
		rest := text[at:]
		if len(rest) < 17 {
			return base, all
		}
		size, kind := int(binary.LittleEndian.Uint32([]byte(rest))), rest[4]
		long := kind == 1 && size > 1<<20 || kind == 2 && size > 1<<23
		if kind != 1 && kind != 2 || long || len(rest[17:]) < size {
			return base, all
		}
		payload := rest[17 : 17+size]
		first, last := len(all) == 0, kind == 1 && n > 1<<40
		if rest[13:17] != four(castagnoli(rest[:13]+payload)) || rest[5:13] != eight(n) || last || kind == 2 && !first {
			return base, all
		}
		at += 17 + size
		all = append(all, part{kind, payload, at})
		if kind == 1 {
			n++
		}
	}
}

// state is an image, the records behind it, and the next number.
type state struct {
	image   string
	records []string
	next    int
}

func (s state) String() string {
	name := func(b string) string {
		if len(b) > 40 {
			return fmt.Sprintf("%d bytes of sum %x", len(b), castagnoli(b))
		}
		return fmt.Sprintf("%q", b)
	}
	var all []string
	for _, b := range s.records {
		all = append(all, name(b))
	}
	return fmt.Sprintf("image %s, records %v, next %d", name(s.image), all, s.next)
}

func (s state) is(o state) bool {
	return s.image == o.image && s.next == o.next && slices.Equal(s.records, o.records)
}

// behind is the state with one record more.
func (s state) behind(payload string) state {
	return state{s.image, append(slices.Clone(s.records), payload), s.next + 1}
}

// told is what a journal tells of its state.
func told(j *Journal) state {
	s := state{image: string(j.Image()), next: j.Next()}
	for _, b := range j.Records() {
		s.records = append(s.records, string(b))
	}
	return s
}

// view is what List and Read tell.
func view(d *disk.Disk) map[int]string {
	all := map[int]string{}
	list, _ := d.List()
	for _, seg := range list {
		text, _ := d.Read(seg)
		all[seg] = string(text)
	}
	return all
}

// holds is what a disk holds, and B (0: there is none).
func holds(d *disk.Disk) (state, int) {
	there := view(d)
	list, _ := d.List()
	first := -1
	for i := len(list) - 1; i >= 0 && first < 0; i-- {
		if _, all := parts(list[i], there[list[i]]); len(all) > 0 && all[0].kind == 2 {
			first = i
		}
	}
	if first < 0 {
		return state{next: 1}, 0
	}
	b := list[first]
	base, all := parts(b, there[b])
	s := state{image: all[0].payload, next: int(base)}
	for i, seg := range list[first:] {
		base, all := parts(seg, there[seg])
		if i > 0 && base != uint64(s.next) {
			continue
		}
		for _, p := range all {
			if p.kind == 1 {
				s = s.behind(p.payload)
			}
		}
	}
	return s, b
}

// model is a journal that goes by the words.
type model struct {
	d       *disk.Disk
	s       state
	b       int // B; 0: none
	current int // 0: none
}

// all does calls as long as they are answered OK, and tells the first error.
func all(calls ...func() api.Errno) api.Errno {
	for _, c := range calls {
		if code := c(); code != api.OK {
			return code
		}
	}
	return api.OK
}

// removals are the calls that take segments away.
func removals(d *disk.Disk, segs []int) []func() api.Errno {
	var calls []func() api.Errno
	for _, seg := range segs {
		calls = append(calls, func() api.Errno { return d.Remove(seg) })
	}
	return calls
}

func openModel(d *disk.Disk) (*model, api.Errno) {
	if code := d.Sync(); code != api.OK {
		return nil, code
	}
	s, b := holds(d)
	list, _ := d.List()
	old := slices.DeleteFunc(slices.Clone(list), func(seg int) bool { return seg >= b })
	if code := all(removals(d, old)...); code != api.OK {
		return nil, code
	}
	return &model{d, s, b, 0}, api.OK
}

func (m *model) roomFor(n int) func() api.Errno {
	return func() api.Errno {
		room, code := m.d.Room()
		if code == api.OK && room < n {
			return api.ErrDiskFull
		}
		return code
	}
}

// fresh is the number of a new segment.
func (m *model) fresh() (int, api.Errno) {
	list, code := m.d.List()
	if code != api.OK || len(list) == 0 {
		return 1, code
	}
	if slices.Max(list) == 1<<40 {
		return 0, api.ErrJournalNumber
	}
	return slices.Max(list) + 1, api.OK
}

func (m *model) create(seg int) func() api.Errno {
	return func() api.Errno { return m.d.Create(seg) }
}

func (m *model) lay(seg int, text string) func() api.Errno {
	return func() api.Errno { return m.d.Append(seg, []byte(text)) }
}

func (m *model) Append(payload []byte) api.Errno {
	if len(payload) > 1<<20 {
		return api.ErrJournalLong
	}
	if m.s.next > 1<<40 {
		return api.ErrJournalNumber
	}
	text := record(uint64(m.s.next), string(payload))
	have, _ := m.d.Read(m.current)
	seg, cost := m.current, 0
	var calls []func() api.Errno
	if m.current == 0 || len(have)+len(text) > 1<<16 {
		var code api.Errno
		if seg, code = m.fresh(); code != api.OK {
			return code
		}
		if m.b == 0 {
			text = image(uint64(m.s.next), "") + text
		}
		text, cost = front(uint64(seg), uint64(m.s.next))+text, 64
		calls = append(calls, m.create(seg))
	}
	calls = append(calls, m.lay(seg, text))
	if code := all(slices.Insert(calls, 0, m.roomFor(len(text)+cost))...); code != api.OK {
		return code
	}
	m.s, m.current = m.s.behind(string(payload)), seg
	if m.b == 0 {
		m.b = seg
	}
	return api.OK
}

func (m *model) Sync() api.Errno { return m.d.Sync() }

func (m *model) Snapshot(b []byte) api.Errno {
	if len(b) > 1<<23 {
		return api.ErrJournalLong
	}
	seg, code := m.fresh()
	if code != api.OK {
		return code
	}
	list, _ := m.d.List()
	n := uint64(m.s.next)
	calls := []func() api.Errno{m.roomFor(24 + 17 + len(b) + 64), m.create(seg), m.lay(seg, front(uint64(seg), n)+image(n, string(b))), m.d.Sync}
	if code := all(append(calls, removals(m.d, list)...)...); code != api.OK {
		return code
	}
	m.s, m.b, m.current = state{image: string(b), next: m.s.next}, seg, seg
	return api.OK
}

// book is a journal or its model.
type book interface {
	Append(payload []byte) api.Errno
	Sync() api.Errno
	Snapshot(image []byte) api.Errno
}

// whole tells all of a disk that a later call can tell: what is there, and,
// by the fates of its copies, what is safe.
func whole(d *disk.Disk) string {
	var b strings.Builder
	fmt.Fprint(&b, d.Down(), lasts(d), " ")
	for _, fate := range [][]int{nil, {math.MaxInt}, {0, math.MaxInt}, {0, 0, math.MaxInt}, {2, 2, 2, 2, 2}, {math.MaxInt, math.MaxInt, math.MaxInt, math.MaxInt, math.MaxInt, math.MaxInt, math.MaxInt, math.MaxInt}} {
		c := d.Copy()
		c.Crash(fate)
		fmt.Fprint(&b, shown(c), "; ")
	}
	return b.String() + shown(d)
}

// shown tells each segment, how long it is, and its bytes by their sum, and the room.
func shown(d *disk.Disk) string {
	var b strings.Builder
	list, code := d.List()
	room, _ := d.Room()
	there := view(d)
	for _, seg := range list {
		fmt.Fprintf(&b, "%d:%d:%x ", seg, len(there[seg]), castagnoli(there[seg]))
	}
	fmt.Fprint(&b, "room ", room, " ", int(code))
	return b.String()
}

// lasts tells how many changing calls are done till the power goes.
func lasts(d *disk.Disk) int {
	d = d.Copy()
	for n := range 12 {
		if d.Sync() != api.OK {
			return n
		}
	}
	return 12
}

func chance(seed int) *rand.Rand { return rand.New(rand.NewSource(int64(seed))) }

// someFate is a fate of some length, with numbers near and far.
func someFate(r *rand.Rand) []int {
	far := []int{math.MinInt, -1, 0, 0, 1, 2, 17, 18, 24, 25, 41, 42, 43, 60, 70000, math.MaxInt, math.MaxInt, math.MaxInt}
	fate := make([]int, r.Intn(7))
	for i := range fate {
		fate[i] = far[r.Intn(len(far))]
		if r.Intn(3) == 0 {
			fate[i] = r.Intn(130)
		}
	}
	return fate
}

// empty is a new disk.
func empty(t *testing.T, capacity int) *disk.Disk {
	t.Helper()
	d, code := disk.New(capacity)
	if code != api.OK {
		t.Fatal(code)
	}
	return d
}

// opened is a journal on a disk that must open.
func opened(t *testing.T, promise string, d *disk.Disk) *Journal {
	t.Helper()
	j, code := Open(d)
	if code != api.OK || j == nil {
		t.Fatalf("%s: Open: %v, %d", promise, j, code)
	}
	return j
}

// made is a disk with segments of somebody's making, all of them safe.
func made(t *testing.T, segs map[int]string) *disk.Disk {
	t.Helper()
	return filled(t, 1<<26, segs)
}

func filled(t *testing.T, capacity int, segs map[int]string) *disk.Disk {
	t.Helper()
	d := empty(t, capacity)
	for seg, text := range segs {
		if d.Create(seg) != api.OK || d.Append(seg, []byte(text)) != api.OK {
			t.Fatal("no such segment: ", seg)
		}
	}
	d.Sync()
	return d
}

// wants holds what a journal tells against what it must.
func wants(t *testing.T, promise string, j *Journal, want state) {
	t.Helper()
	if got := told(j); !got.is(want) {
		t.Errorf("%s: %v; want %v", promise, got, want)
	}
}

// answers holds an answer against what it must be.
func answers(t *testing.T, promise string, got, want api.Errno) {
	t.Helper()
	if got != want {
		t.Errorf("%s: %d; want %d", promise, got, want)
	}
}

// lies holds what stands on a disk against what must.
func lies(t *testing.T, promise string, d *disk.Disk, want map[int]string) {
	t.Helper()
	got := view(d)
	if len(got) != len(want) {
		list, _ := d.List()
		t.Errorf("%s: segments %v; want %d of them", promise, list, len(want))
	}
	for seg, text := range want {
		if b, is := got[seg]; !is || b != text {
			t.Errorf("%s: segment %d (there: %t) has %d bytes: %.200q; want %d: %.200q", promise, seg, is, len(b), b, len(text), text)
		}
	}
}
