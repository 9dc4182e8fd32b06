package disk

import (
	"fmt"
	"math"
	"math/rand"
	"slices"
	"strings"
	"testing"

	"escapement/api"
)

// same does a call to the disk and to the model, and holds both against each other.
func same(t *testing.T, d, m drive, c call, told []string) bool {
	t.Helper()
	got, want := c.do(d), c.do(m)
	if got != want {
		t.Errorf("P5.2 to P5.5: behind %v, %s: %s; want %s", told, c.name, got, want)
		return false
	}
	if a, b := whole(d), whole(m); a != b {
		t.Errorf("P5.1 to P5.5: behind %v and %s:\n%s\nwant\n%s", told, c.name, a, b)
		return false
	}
	return true
}

// Every state that some calls on two segments lead to, and each of these calls there.
func TestEveryState(t *testing.T) {
	all := []call{
		create(1), create(2), appends(1, "a"), appends(1, "bc"), appends(2, "d"), appends(1, ""), appends(2, strings.Repeat("x", 8)),
		remove(1), remove(2), syncs(), arm(0), arm(1), spoil(1, 0, 1), spoil(2, 1, 2),
		crash(), crash(1), crash(0, 1), crash(2, 2), crash(math.MaxInt, math.MaxInt, 1),
	}
	type state struct {
		d, m drive
		told []string
	}
	d, _ := New(134)
	queue := []state{{real{d}, newModel(134), nil}}
	known := map[string]bool{whole(newModel(134)): true}
	for n := 0; n < len(queue) && n < 700; n++ {
		s := queue[n]
		for _, c := range all {
			d, m := s.d.twin(), s.m.twin()
			if !same(t, d, m, c, s.told) {
				return
			}
			if w := whole(m); !known[w] {
				known[w] = true
				queue = append(queue, state{d, m, append(slices.Clone(s.told), c.name)})
			}
		}
	}
	if len(queue) < 1000 {
		t.Errorf("only %d states: the calls do not lead about", len(queue))
	}
}

// Long walks of all calls, beside the model.
func TestWalks(t *testing.T) {
	for seed := range int64(120) {
		r := chance(seed)
		capacity := []int{0, 64, 130, 200, 330, 500, 1 << 26}[r.Intn(7)]
		d, m := drive(real{fresh(t, capacity)}), drive(newModel(capacity))
		var told []string
		for range 120 {
			c := someCall(r)
			if !same(t, d, m, c, told) {
				return
			}
			told = append(told, c.name)
			if r.Intn(10) == 0 {
				d = d.twin()
			}
		}
	}
}

// view is what List and Read tell.
func view(t *testing.T, d *Disk) map[int]string {
	t.Helper()
	all := map[int]string{}
	l, code := d.List()
	if code != api.OK {
		t.Fatal(code)
	}
	for _, seg := range l {
		b, code := d.Read(seg)
		if code != api.OK {
			t.Fatal(code)
		}
		all[seg] = string(b)
	}
	return all
}

// stirred is a disk behind a walk without Spoil; it tells the view behind the
// last time that all was safe. Its power is on.
func stirred(t *testing.T, r *rand.Rand) (*Disk, map[int]string) {
	t.Helper()
	d := fresh(t, 200+r.Intn(400))
	safe := map[int]string{}
	for range r.Intn(40) {
		c := someCall(r)
		if strings.HasPrefix(c.name, "Spoil") || strings.HasPrefix(c.name, "Arm") {
			continue
		}
		c.do(real{d})
		if c.name == "Sync" || strings.HasPrefix(c.name, "Crash") {
			safe = view(t, d)
		}
	}
	return d, safe
}

// P5.7: a Crash keeps what was safe, and gives nothing that never was.
func TestKept(t *testing.T) {
	for seed := range int64(2000) {
		r := chance(seed)
		d, safe := stirred(t, r)
		there := view(t, d)
		fate := someFate(r)
		d.Crash(fate)
		then := view(t, d)
		for seg, bytes := range safe {
			if _, kept := there[seg]; !kept {
				continue
			}
			if got, is := then[seg]; !is || !strings.HasPrefix(got, bytes) {
				t.Fatalf("P5.7: seed %d, Crash(%v): segment %d was safe with %q, and has %q (there: %t)", seed, fate, seg, bytes, got, is)
			}
		}
		for seg, bytes := range then {
			was, is := there[seg]
			if is && !strings.HasPrefix(was, bytes) {
				t.Fatalf("P5.7: seed %d, Crash(%v): segment %d has %q, and had %q", seed, fate, seg, bytes, was)
			}
			if past, known := safe[seg]; !is && (!known || past != bytes) {
				t.Fatalf("P5.7: seed %d, Crash(%v): segment %d is there with %q; safe were %q (%t)", seed, fate, seg, bytes, past, known)
			}
		}
	}
}

// P5.8: behind a Sync, or a Crash, no Crash changes what is told.
func TestSynced(t *testing.T) {
	for seed := range int64(500) {
		r := chance(seed)
		d, _ := stirred(t, r)
		if r.Intn(2) == 0 {
			play(t, "P5.8", d, step{syncs(), "0"})
		} else {
			d.Crash(someFate(r))
		}
		before := seen(real{d})
		for range 4 {
			fate := someFate(r)
			d.Crash(fate)
			if got := seen(real{d}); got != before {
				t.Fatalf("P5.8: seed %d, Crash(%v): %s; was %s", seed, fate, got, before)
			}
		}
	}
}

// P5.9: the power goes in the changing call behind n ones that were done, in no other.
func TestToTheCall(t *testing.T) {
	for seed := range int64(600) {
		r := chance(seed)
		d, _ := stirred(t, r)
		n := r.Intn(12)
		play(t, "P5.9", d, step{arm(n), "0"})
		done := 0
		for !d.Down() {
			c := someCall(r)
			word, _, _ := strings.Cut(c.name, "(")
			if word == "Crash" || word == "Arm" {
				continue
			}
			got := c.do(real{d})
			if done == n && got == "0" && word != "Spoil" {
				t.Fatalf("P5.9: seed %d, Arm(%d): %s is done, the call behind %d ones", seed, n, c.name, done)
			}
			if d.Down() && done < n {
				t.Fatalf("P5.9: seed %d, Arm(%d): the power goes in %s, behind %d calls", seed, n, c.name, done)
			}
			if got == "0" && word != "Spoil" {
				done++
			}
		}
		if done != n {
			t.Fatalf("P5.9: seed %d, Arm(%d): %d calls were done", seed, n, done)
		}
	}
}

// used is what the segments that are there cost.
func used(t *testing.T, d *Disk) int {
	t.Helper()
	n := 0
	for _, bytes := range view(t, d) {
		n += 64 + len(bytes)
	}
	return n
}

// P5.10: the room and what is used are the capacity; no call takes more than there is.
func TestRoom(t *testing.T) {
	for seed := range int64(400) {
		r := chance(seed)
		capacity := r.Intn(600)
		d := fresh(t, capacity)
		over := false
		for range 60 {
			c := someCall(r)
			if strings.HasPrefix(c.name, "Arm") {
				continue
			}
			got := c.do(real{d})
			u := used(t, d)
			over = u > capacity && (over || strings.HasPrefix(c.name, "Crash"))
			room, code := d.Room()
			if code != api.OK || u <= capacity && room+u != capacity || u > capacity && (!over || room != 0) {
				t.Fatalf("P5.10: seed %d, %s: room %d, used %d of %d, %d", seed, c.name, room, u, capacity, code)
			}
			grows := strings.HasPrefix(c.name, "Create") || strings.HasPrefix(c.name, "Append") && !strings.HasSuffix(c.name, `"")`)
			if grows && got == "0" && u > capacity {
				t.Fatalf("P5.10: seed %d, %s is done: used %d of %d", seed, c.name, u, capacity)
			}
		}
	}
}

// P5.10: a Crash may bring back more than there is room for; what is taken
// away then gives room only when what is used is within the capacity again.
func TestBeyond(t *testing.T) {
	d := after(t, 130, create(1), syncs(), remove(1), create(2), create(3))
	play(t, "P5.10", d, step{room(), "2 0"}, step{appends(2, "ab"), "0"}, step{crash(1, 3, 1), "-"},
		step{list(), "[1 2 3] 0"}, step{read(2), `"ab" 0`}, step{room(), "0 0"},
		step{create(4), "54"}, step{appends(1, "x"), "54"}, step{appends(1, ""), "0"},
		step{remove(2), "0"}, step{room(), "2 0"}, step{appends(1, "abc"), "54"}, step{appends(1, "ab"), "0"},
		step{remove(3), "0"}, step{room(), "64 0"}, step{create(4), "0"}, step{room(), "0 0"}, step{syncs(), "0"}, step{list(), "[1 4] 0"})
}

// P5.10: many segments and many bytes are counted as they come and go, in as little time as few.
func TestMany(t *testing.T) {
	const n = 100000
	d := fresh(t, 1<<26)
	for seg := n; seg > 0; seg-- {
		if d.Create(seg) != api.OK || d.Append(seg, []byte{byte(seg)}) != api.OK || d.Sync() != api.OK {
			t.Fatal(seg)
		}
	}
	play(t, "P5.10", d, step{room(), fmt.Sprintf("%d 0", 1<<26-n*65)})
	for seg := 2; seg <= n; seg++ {
		if d.Remove(seg) != api.OK {
			t.Fatal(seg)
		}
	}
	play(t, "P5.10", d, step{room(), fmt.Sprintf("%d 0", 1<<26-65)}, step{list(), "[1] 0"}, step{crash(0, 1), "-"}, step{list(), "[1 3] 0"})
}
