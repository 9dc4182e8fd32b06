package journal

import (
	"fmt"
	"math"
	"math/rand"
	"slices"
	"strings"
	"testing"

	"escapement/api"
	"escapement/disk"
)

// somePayload is bytes that never stand twice, short or long, some of them
// such as a whole piece, or a whole segment, would have.
func somePayload(r *rand.Rand, n, next int) string {
	word := fmt.Sprint("p", n)
	switch r.Intn(12) {
	case 0:
		return word + strings.Repeat("x", 1<<16)
	case 1:
		return word + strings.Repeat("y", 1<<15)
	case 2:
		return record(uint64(next), word) + record(uint64(next+1), word)
	case 3:
		return front(uint64(next), uint64(next)) + image(uint64(next), word) + record(uint64(next), word)
	case 4:
		return image(uint64(next), word)
	}
	return word
}

// P6.1 to P6.6: long walks of all calls, beside the model.
func TestWalks(t *testing.T) {
	t.Parallel()
	for seed := range 150 {
		r := chance(seed)
		capacity := []int{0, 150, 300, 500, 1000, 1 << 18, 1 << 22}[r.Intn(7)]
		a, c := empty(t, capacity), empty(t, capacity)
		j, _ := Open(a)
		m, _ := openModel(c)
		var names []string
		both := func(name string, got, want api.Errno) {
			names = append(names, name)
			if got != want {
				t.Fatalf("P6.3 to P6.6: seed %d, %v: %d; want %d", seed, names, got, want)
			}
		}
		for step := range 60 {
			payload := []byte(somePayload(r, step, j.Next()))
			switch n := r.Intn(20); {
			case a.Down() || n < 2:
				fate := someFate(r)
				a.Crash(fate)
				c.Crash(fate)
				names = append(names, fmt.Sprint("Crash", fate))
				fallthrough
			case n < 4:
				k, got := Open(a)
				l, want := openModel(c)
				both("Open", got, want)
				if want == api.OK {
					j, m = k, l
				}
			case n < 6:
				calls := r.Intn(12)
				both(fmt.Sprint("Arm ", calls), a.Arm(calls), c.Arm(calls))
			case n < 8:
				both("Sync", j.Sync(), m.Sync())
			case n < 10:
				both("Snapshot", j.Snapshot(payload), m.Snapshot(payload))
			default:
				both("Append", j.Append(payload), m.Append(payload))
			}
			if !told(j).is(m.s) {
				t.Fatalf("P6.2: seed %d, %v: %v; want %v", seed, names, told(j), m.s)
			}
			if g, w := whole(a), whole(c); g != w {
				t.Fatalf("P6.1 to P6.6: seed %d, %v: the disk has\n%s\nwant\n%s", seed, names, g, w)
			}
		}
	}
}

// P6.1: segments that were cut, turned and put together by chance, beside the model.
func TestRubbish(t *testing.T) {
	t.Parallel()
	found := 0
	for seed := range 4000 {
		r := chance(seed)
		segs := map[int]string{}
		next := uint64(1 + r.Intn(3))
		for seg := 1 + r.Intn(2); len(segs) < 1+r.Intn(5); seg += 1 + r.Intn(2) {
			text := front(uint64(seg), next)
			if r.Intn(3) == 0 {
				text += image(next, fmt.Sprint("i", seg))
			}
			for range r.Intn(4) {
				text += record(next, fmt.Sprint("r", seg))
				next++
			}
			switch b := []byte(text); r.Intn(8) {
			case 0:
				text = text[:r.Intn(len(text))]
			case 1:
				b[r.Intn(len(b))] ^= 1 << r.Intn(8)
				text = string(b)
			case 2:
				text += piece(byte(r.Intn(4)), next+uint64(r.Intn(3))-1, "odd")
			case 3:
				next += uint64(r.Intn(3)) - 1
			}
			segs[seg] = text
		}
		d := made(t, segs)
		want, b := holds(d)
		if b > 0 && len(want.records) > 1 {
			found++
		}
		wants(t, fmt.Sprint("P6.1, seed ", seed), opened(t, "P6.1", d), want)
		for seg := range segs {
			if seg < b {
				delete(segs, seg)
			}
		}
		lies(t, fmt.Sprint("P6.1, seed ", seed), d, segs)
	}
	if found < 500 {
		t.Errorf("only %d of these disks held records behind an image", found)
	}
}

// tale keeps the story of a journal, beside it.
type tale struct {
	t     *testing.T
	d     *disk.Disk
	j     *Journal
	story []state
	floor int // no state ahead of this one may be found
	names []string
}

func begin(t *testing.T, capacity int) *tale {
	t.Helper()
	d := empty(t, capacity)
	return &tale{t, d, opened(t, "P6.7", d), []state{{next: 1}}, 0, nil}
}

// twin is the same story, on a copy of the disk; its journal is the first one's, and not to be asked.
func (s *tale) twin() *tale {
	return &tale{s.t, s.d.Copy(), nil, slices.Clone(s.story), s.floor, slices.Clone(s.names)}
}

func (s *tale) now() state { return s.story[len(s.story)-1] }

// grow does a call that brings the story one state further, if it is done, or
// if the power goes in it.
func (s *tale) grow(name string, then state, call func() api.Errno) api.Errno {
	off := s.d.Down()
	code := call()
	s.names = append(s.names, fmt.Sprint(name, " ", int(code)))
	if code == api.OK || !off && s.d.Down() {
		s.story = append(s.story, then)
	}
	return code
}

func (s *tale) append(payload string) api.Errno {
	return s.grow("Append", s.now().behind(payload), func() api.Errno { return s.j.Append([]byte(payload)) })
}

func (s *tale) snapshot(b string) api.Errno {
	code := s.grow("Snapshot", state{b, nil, s.now().next}, func() api.Errno { return s.j.Snapshot([]byte(b)) })
	if code == api.OK {
		s.floor = len(s.story) - 1
	}
	return code
}

func (s *tale) sync() api.Errno {
	code := s.j.Sync()
	s.names = append(s.names, fmt.Sprint("Sync ", int(code)))
	if code == api.OK {
		s.floor = len(s.story) - 1
	}
	return code
}

func (s *tale) crash(fate ...int) {
	s.d.Crash(fate)
	s.names = append(s.names, fmt.Sprint("Crash", fate))
}

// open opens the journal anew: what it finds must be of the story, and the
// story goes on from there.
func (s *tale) open() api.Errno {
	s.t.Helper()
	j, code := Open(s.d)
	s.names = append(s.names, fmt.Sprint("Open ", int(code)))
	if code == api.ErrDiskDown {
		return code
	}
	if code != api.OK {
		s.t.Fatalf("P6.7: %v: %d", s.names, code)
	}
	s.j = j
	found := told(j)
	place := slices.IndexFunc(s.story[s.floor:], found.is)
	if place < 0 {
		s.t.Fatalf("P6.7, P6.9: %v: found %v; of the story %v from %d on", s.names, found, s.story, s.floor)
	}
	s.floor += place
	s.story = s.story[:s.floor+1]
	return code
}

// same holds that further Opens find the same, whatever crashes lie between.
func (s *tale) same(r *rand.Rand, times int) {
	s.t.Helper()
	found := s.now()
	for range times {
		switch r.Intn(4) {
		case 0:
			s.crash(someFate(r)...)
		case 1:
			s.crash(1, 1, 1, 1, 1, 1)
		case 2:
			s.d.Arm(r.Intn(4))
		}
		if s.open() != api.OK {
			s.crash(someFate(r)...)
			s.open()
		}
		if !told(s.j).is(found) {
			s.t.Fatalf("P6.8: %v: found %v; was %v", s.names, told(s.j), found)
		}
	}
}

// fates are all rows of n of these numbers.
func fates(n int, of ...int) [][]int {
	if n == 0 {
		return [][]int{nil}
	}
	var all [][]int
	for _, rest := range fates(n-1, of...) {
		for _, f := range of {
			all = append(all, append([]int{f}, rest...))
		}
	}
	return all
}

// play does the steps that a text's letters name. A full segment is left by
// the letter f, as if its bytes were more: so a story has many short ones.
func (s *tale) play(text string) {
	for _, letter := range text {
		// no two states of a story may look the same
		word := fmt.Sprint(string(letter), len(s.names))
		switch letter {
		case 'f':
			s.j.size = api.SegSize
			s.append(word)
		case 'a':
			s.append(word)
		case 's':
			s.sync()
		case 'i':
			s.snapshot(word)
		case 'o':
			s.open()
		}
	}
}

// texts are all rows of n letters.
func texts(n int) []string {
	if n == 0 {
		return []string{""}
	}
	var all []string
	for _, rest := range texts(n - 1) {
		for _, letter := range "afsio" {
			all = append(all, rest+string(letter))
		}
	}
	return all
}

// P6.7 to P6.9: all short rows of calls; the power goes in each call on the
// disk of the last one, or behind it, with fates of every kind. Then the
// story goes on, and the power goes again.
func TestEveryLoss(t *testing.T) {
	t.Parallel()
	for length := 1; length <= 4; length++ {
		for _, text := range texts(length) {
			for calls := 0; calls < 7; calls++ {
				s := begin(t, 100000)
				s.play(text[:length-1])
				s.d.Arm(calls)
				s.play(text[length-1:])
				off := s.d.Down()
				for _, fate := range fates(3, 0, 1, 26, math.MaxInt) {
					c := s.twin()
					c.crash(fate...)
					c.open()
					found := c.now()
					c.open()
					if !c.now().is(found) {
						t.Fatalf("P6.8: %s: %v: found %v; was %v", text, c.names, c.now(), found)
					}
					c.append("then")
					c.d.Crash(fate)
					c.open()
				}
				if !off {
					break
				}
			}
		}
	}
}

// P6.7: one lost byte after the other, of a segment that is new and of one that has grown.
func TestEveryByte(t *testing.T) {
	t.Parallel()
	for _, first := range []string{"", "s", "is", "i", "ao"} {
		for _, last := range []string{"a", "aa", "f", "af", "ffa"} {
			s := begin(t, 100000)
			s.play("a" + first + last)
			for place := range 3 {
				for f := range 140 {
					for _, others := range []int{0, math.MaxInt} {
						c := s.twin()
						fate := []int{others, others, others}
						fate[place] = f
						c.crash(fate...)
						c.open()
						c.append("then")
						c.open()
						if got := c.now(); len(got.records) == 0 || got.records[len(got.records)-1] != "then" {
							t.Fatalf("P6.9: %v: %v", c.names, got)
						}
					}
				}
			}
		}
	}
}

// P6.7 to P6.9: long stories with many losses of power, payloads of all kinds, full disks.
func TestStories(t *testing.T) {
	t.Parallel()
	for seed := range 400 {
		r := chance(seed)
		s := begin(t, []int{400, 1000, 3000, 1 << 19, 1 << 22}[r.Intn(5)])
		for step := range 80 {
			word := somePayload(r, step, s.now().next)
			switch n := r.Intn(20); {
			case s.d.Down() || n < 2:
				s.crash(someFate(r)...)
				if r.Intn(4) == 0 {
					s.d.Arm(r.Intn(4))
					if s.open() != api.OK {
						s.crash(someFate(r)...)
					}
				}
				s.crash()
				s.open()
				if r.Intn(3) == 0 {
					s.same(r, 3)
				}
			case n < 3:
				last := s.now()
				if s.open() == api.OK && !s.now().is(last) {
					t.Fatalf("P6.7: seed %d, %v: found %v without a crash; was %v", seed, s.names, s.now(), last)
				}
			case n < 5:
				s.d.Arm(r.Intn(8))
			case n < 7:
				s.sync()
			case n < 9:
				s.snapshot(word)
			default:
				s.append(word)
			}
			if !s.d.Down() && !told(s.j).is(s.now()) {
				t.Fatalf("P6.2: seed %d, %v: %v; want %v", seed, s.names, told(s.j), s.now())
			}
		}
	}
}

// P6.9: what is gone does not come back when the numbers have reached it again.
func TestGone(t *testing.T) {
	s := begin(t, 100000)
	s.append("1")
	s.sync()
	for _, word := range []string{"2", "3", "4"} {
		s.j.size = api.SegSize
		s.append(word)
	}
	s.crash(0, math.MaxInt, math.MaxInt)
	s.open()
	wants(t, "P6.9", s.j, state{"", []string{"1"}, 2})
	for _, word := range []string{"b", "c", "d"} {
		s.j.size = api.SegSize
		s.append(word)
		j := opened(t, "P6.9", s.d.Copy())
		wants(t, "P6.9, behind "+word, j, s.now())
		s.open()
	}
	wants(t, "P6.9", s.j, state{"", []string{"1", "b", "c", "d"}, 5})
	s.snapshot("i")
	s.crash(1, 1, 1, 1, 1, 1, 1, 1)
	s.open()
	wants(t, "P6.9, behind an image", s.j, state{"i", nil, 5})
}

// spoiltAt is what must be found when a byte of a segment is turned, or false
// where nothing is said: the byte tells how many a payload has.
func spoiltAt(there map[int]string, list []int, seg, at int) (state, bool) {
	_, first := parts(list[0], there[list[0]])
	if seg == list[0] && at < 24 {
		return state{next: 1}, true
	}
	base, _ := parts(list[0], there[list[0]])
	s := state{image: first[0].payload, next: int(base)}
	for _, n := range list {
		_, pieces := parts(n, there[n])
		start := 24
		for _, p := range pieces {
			if n == seg && at >= start && at < start+4 {
				return state{}, false
			}
			if n == seg && at < p.end {
				if p.kind == 2 {
					return state{next: 1}, true
				}
				return s, true
			}
			if p.kind == 1 {
				s = s.behind(p.payload)
			}
			start = p.end
		}
	}
	return s, true
}

// spoil turns bits of a byte of a copy, and holds what is found then.
func spoil(t *testing.T, d *disk.Disk, there map[int]string, list []int, seg, at int, masks []byte) {
	t.Helper()
	want, said := spoiltAt(there, list, seg, at)
	for _, mask := range masks {
		c := d.Copy()
		answers(t, "P6.10", c.Spoil(seg, at, mask), api.OK)
		if j := opened(t, "P6.10", c); said && !told(j).is(want) {
			t.Errorf("P6.10: segment %d, byte %d, mask %02x: %v; want %v", seg, at, mask, told(j), want)
		}
	}
}

// P6.10: each byte is turned, by each bit and by some at once; a short
// journal's by all masks.
func TestSpoilt(t *testing.T) {
	t.Parallel()
	var every []byte
	for mask := 1; mask < 256; mask++ {
		every = append(every, byte(mask))
	}
	some := []byte{1, 2, 3, 4, 8, 16, 32, 64, 128, 255}
	for text, masks := range map[string][]byte{
		"aoa": every, "a": some, "aaa": some, "i": some, "aiaa": some, "affa": some, "iaofaofs": some, "aoooaai": some, "aiaofa": some,
	} {
		s := begin(t, 100000)
		s.play(text)
		s.sync()
		there := view(s.d)
		list, _ := s.d.List()
		for _, seg := range list {
			for at := range len(there[seg]) {
				spoil(t, s.d, there, list, seg, at, masks)
			}
		}
	}
}

// P6.10: of long records some bytes are turned, and those at their ends.
func TestSpoiltLong(t *testing.T) {
	s := begin(t, 1<<20)
	s.snapshot("image")
	for i := range 5 {
		s.append(strings.Repeat(fmt.Sprint(i), 1<<15))
	}
	s.append("short")
	s.sync()
	there := view(s.d)
	list, _ := s.d.List()
	r := chance(1)
	for _, seg := range list {
		_, pieces := parts(seg, there[seg])
		places := []int{0, 3, 4, 23}
		start := 24
		for _, p := range pieces {
			places = append(places, start+4, start+5, start+12, start+13, start+16, min(start+17, p.end-1), p.end-1)
			start = p.end
		}
		for range 30 {
			places = append(places, r.Intn(len(there[seg])))
		}
		for _, at := range places {
			spoil(t, s.d, there, list, seg, at, []byte{byte(1 + r.Intn(255))})
		}
	}
}
