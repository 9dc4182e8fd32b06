package disk

import (
	"fmt"
	"maps"
	"math"
	"math/rand"
	"slices"
	"strings"

	"escapement/api"
)

// The model has the chapter's two views, each whole, as texts by number; it
// counts what is used anew each time, and finds out what a segment is (new,
// taken away, grown) from the views.
type model struct {
	capacity    int
	there, safe map[int]string
	armed       []int // no number: not armed
	off         bool
}

func newModel(capacity int) *model {
	return &model{capacity: capacity, there: map[int]string{}, safe: map[int]string{}}
}

func (m *model) room() int {
	left := m.capacity
	for _, s := range m.there {
		left -= 64 + len(s)
	}
	return max(left, 0)
}

// change does a changing call that is not refused.
func (m *model) change(do func()) api.Errno {
	switch {
	case m.armed == nil:
		do()
	case m.armed[0] > 0:
		do()
		m.armed = []int{m.armed[0] - 1}
	default:
		do()
		m.off = true
		return api.ErrDiskDown
	}
	return api.OK
}

func (m *model) List() ([]int, api.Errno) {
	if m.off {
		return nil, api.ErrDiskDown
	}
	return slices.Sorted(maps.Keys(m.there)), api.OK
}

func (m *model) Create(seg int) api.Errno {
	_, there := m.there[seg]
	_, safe := m.safe[seg]
	switch {
	case m.off:
		return api.ErrDiskDown
	case seg < 1 || seg > 1<<40:
		return api.ErrDiskNumber
	case there || safe:
		return api.ErrDiskThere
	case 64 > m.room():
		return api.ErrDiskFull
	}
	return m.change(func() { m.there[seg] = "" })
}

// lacks is the error of the power, or of a segment that is not there.
func (m *model) lacks(seg int) api.Errno {
	if m.off {
		return api.ErrDiskDown
	}
	if _, there := m.there[seg]; !there {
		return api.ErrDiskNone
	}
	return api.OK
}

func (m *model) Append(seg int, b []byte) api.Errno {
	if code := m.lacks(seg); code != api.OK {
		return code
	}
	if len(b) > m.room() {
		return api.ErrDiskFull
	}
	return m.change(func() { m.there[seg] += string(b) })
}

func (m *model) Read(seg int) ([]byte, api.Errno) {
	if code := m.lacks(seg); code != api.OK {
		return nil, code
	}
	return []byte(m.there[seg]), api.OK
}

func (m *model) Remove(seg int) api.Errno {
	if code := m.lacks(seg); code != api.OK {
		return code
	}
	return m.change(func() { delete(m.there, seg) })
}

func (m *model) Sync() api.Errno {
	if m.off {
		return api.ErrDiskDown
	}
	last := m.armed != nil && m.armed[0] == 0
	return m.change(func() {
		if !last {
			m.safe = maps.Clone(m.there)
		}
	})
}

func (m *model) Room() (int, api.Errno) {
	if m.off {
		return 0, api.ErrDiskDown
	}
	return m.room(), api.OK
}

func (m *model) Arm(calls int) api.Errno {
	switch {
	case m.off:
		return api.ErrDiskDown
	case calls < 0:
		return api.ErrArg
	}
	m.armed = []int{calls}
	return api.OK
}

func (m *model) Down() bool { return m.off }

// open are the numbers of the segments that are open to loss.
func (m *model) open() []int {
	all := maps.Clone(m.safe)
	maps.Copy(all, m.there)
	return slices.DeleteFunc(slices.Sorted(maps.Keys(all)), func(seg int) bool {
		now, there := m.there[seg]
		then, safe := m.safe[seg]
		return there && safe && len(now) == len(then)
	})
}

// firstOf is a text's beginning.
func firstOf(s string, n int) string {
	if n < 0 {
		return ""
	}
	if n > len(s) {
		return s
	}
	return s[:n]
}

func (m *model) Crash(fate []int) {
	for _, seg := range m.open() {
		f := 0
		if len(fate) > 0 {
			f, fate = fate[0], fate[1:]
		}
		now, there := m.there[seg]
		then, safe := m.safe[seg]
		switch {
		case there && safe:
			m.there[seg] = then + firstOf(now[len(then):], f)
		case there && f < 1:
			delete(m.there, seg)
		case there:
			m.there[seg] = firstOf(now, f-1)
		case f >= 1:
			m.there[seg] = then
		}
	}
	m.safe = maps.Clone(m.there)
	m.armed, m.off = nil, false
}

func turned(s string, at int, mask byte) string {
	return s[:at] + string([]byte{s[at] ^ mask}) + s[at+1:]
}

func (m *model) Spoil(seg, at int, mask byte) api.Errno {
	if code := m.lacks(seg); code != api.OK {
		return code
	}
	now := m.there[seg]
	if at < 0 || at > len(now)-1 {
		return api.ErrDiskPlace
	}
	m.there[seg] = turned(now, at, mask)
	if then, safe := m.safe[seg]; safe && at < len(then) {
		m.safe[seg] = turned(then, at, mask)
	}
	return api.OK
}

// drive is the disk or its model.
type drive interface {
	List() ([]int, api.Errno)
	Create(seg int) api.Errno
	Append(seg int, b []byte) api.Errno
	Read(seg int) ([]byte, api.Errno)
	Remove(seg int) api.Errno
	Sync() api.Errno
	Room() (int, api.Errno)
	Arm(calls int) api.Errno
	Down() bool
	Crash(fate []int)
	Spoil(seg, at int, mask byte) api.Errno
	twin() drive
}

func (m *model) twin() drive {
	return &model{m.capacity, maps.Clone(m.there), maps.Clone(m.safe), slices.Clone(m.armed), m.off}
}

// real is a disk as a drive.
type real struct{ *Disk }

func (r real) twin() drive { return real{r.Copy()} }

// held tells what List and Read do: each segment's number and bytes.
func held(d drive) string {
	list, code := d.List()
	if code != api.OK {
		return fmt.Sprint("List: ", int(code))
	}
	var all []string
	for _, seg := range list {
		bytes, code := d.Read(seg)
		all = append(all, fmt.Sprintf("%d:%s", seg, bytes))
		if code != api.OK {
			return fmt.Sprintf("Read(%d): %d", seg, int(code))
		}
	}
	return strings.Join(all, " ")
}

// seen tells what List, Read and Room do.
func seen(d drive) string {
	n, code := d.Room()
	return fmt.Sprint(held(d), " room ", n, " ", int(code))
}

// lasts tells how many changing calls are done till the power goes.
func lasts(d drive) int {
	d = d.twin()
	for n := range 8 {
		if d.Sync() != api.OK {
			return n
		}
	}
	return 8
}

// whole tells all of a drive that a later call can tell: the view that is
// there, and, by the fates of its twins, the other one.
func whole(d drive) string {
	var b strings.Builder
	fmt.Fprint(&b, d.Down(), lasts(d), " ", seen(d))
	for _, f := range []int{1, 2, math.MaxInt} {
		for place := range 4 {
			fate := make([]int, place+1)
			fate[place] = f
			after := d.twin()
			after.Crash(fate)
			fmt.Fprint(&b, "\n", fate, seen(after), lasts(after))
		}
	}
	return b.String()
}

// call is one call, and what it is by name; it tells the answer.
type call struct {
	name string
	do   func(d drive) string
}

func calls(name string, do func(d drive) api.Errno) call {
	return call{name, func(d drive) string { return fmt.Sprint(int(do(d))) }}
}

func create(seg int) call {
	return calls(fmt.Sprintf("Create(%d)", seg), func(d drive) api.Errno { return d.Create(seg) })
}

func appends(seg int, s string) call {
	return calls(fmt.Sprintf("Append(%d, %q)", seg, s), func(d drive) api.Errno { return d.Append(seg, []byte(s)) })
}

func remove(seg int) call {
	return calls(fmt.Sprintf("Remove(%d)", seg), func(d drive) api.Errno { return d.Remove(seg) })
}

func syncs() call { return calls("Sync", drive.Sync) }

func arm(n int) call {
	return calls(fmt.Sprintf("Arm(%d)", n), func(d drive) api.Errno { return d.Arm(n) })
}

func spoil(seg, at int, mask byte) call {
	return calls(fmt.Sprintf("Spoil(%d, %d, %d)", seg, at, mask), func(d drive) api.Errno { return d.Spoil(seg, at, mask) })
}

func read(seg int) call {
	return call{fmt.Sprintf("Read(%d)", seg), func(d drive) string {
		b, code := d.Read(seg)
		return fmt.Sprintf("%q %d", b, int(code))
	}}
}

func list() call {
	return call{"List", func(d drive) string {
		l, code := d.List()
		return fmt.Sprint(l, int(code))
	}}
}

func room() call {
	return call{"Room", func(d drive) string {
		n, code := d.Room()
		return fmt.Sprint(n, int(code))
	}}
}

func down() call {
	return call{"Down", func(d drive) string { return fmt.Sprint(d.Down()) }}
}

func crash(fate ...int) call {
	return call{fmt.Sprintf("Crash(%v)", fate), func(d drive) string {
		d.Crash(fate)
		return "-"
	}}
}

func chance(seed int64) *rand.Rand { return rand.New(rand.NewSource(seed)) }

// someFate is a fate of some length, with numbers near and far.
func someFate(r *rand.Rand) []int {
	far := []int{math.MinInt, -1, 0, 0, 1, 1, 2, 3, 5, 100, math.MaxInt - 1, math.MaxInt}
	fate := make([]int, r.Intn(7))
	for i := range fate {
		fate[i] = far[r.Intn(len(far))]
	}
	return fate
}

// someCall is one of all calls, mostly of those that change something.
func someCall(r *rand.Rand) call {
	seg := r.Intn(6)
	switch r.Intn(22) {
	case 0, 1, 2, 3:
		return create(seg)
	case 4, 5, 6, 7, 8:
		return appends(seg, strings.Repeat(string(rune('a'+r.Intn(26))), r.Intn(9)))
	case 9:
		return appends(seg, strings.Repeat("x", r.Intn(300)))
	case 10, 11:
		return remove(seg)
	case 12, 13:
		return syncs()
	case 14:
		return arm(r.Intn(12) - 1)
	case 15, 16:
		return spoil(seg, r.Intn(8)-1, byte(r.Intn(4)))
	case 17:
		return read(seg)
	case 18:
		return list()
	case 19:
		return room()
	}
	return crash(someFate(r)...)
}
