package disk

import (
	"bytes"
	"fmt"
	"math"
	"slices"
	"strings"
	"testing"

	"escapement/api"
)

func fresh(t *testing.T, capacity int) *Disk {
	t.Helper()
	d, code := New(capacity)
	if code != api.OK || d == nil {
		t.Fatalf("P5.1: New(%d): %v, %d", capacity, d, code)
	}
	return d
}

// after is a new disk behind calls whose answers are not looked at.
func after(t *testing.T, capacity int, done ...call) *Disk {
	t.Helper()
	d := fresh(t, capacity)
	for _, c := range done {
		c.do(real{d})
	}
	return d
}

// step is a call and its answer.
type step struct {
	call
	want string
}

// play does steps one behind the other, and holds each answer against what is wanted.
func play(t *testing.T, promise string, d *Disk, steps ...step) {
	t.Helper()
	for i, s := range steps {
		if got := s.do(real{d}); got != s.want {
			t.Errorf("%s: step %d, %s: %s; want %s", promise, i, s.name, got, s.want)
		}
	}
}

// refuses holds that a call is refused so, and changes nothing.
func refuses(t *testing.T, promise string, d *Disk, c call, want string) {
	t.Helper()
	before := whole(real{d})
	if got := c.do(real{d}); got != want {
		t.Errorf("%s: %s: %s; want %s", promise, c.name, got, want)
	}
	if then := whole(real{d}); then != before {
		t.Errorf("%s: %s is refused, and changes something:\n%s\nahead of it:\n%s", promise, c.name, then, before)
	}
}

// The chapter's examples, row by row.
func TestExamples(t *testing.T) {
	d := fresh(t, 200)
	play(t, "examples", d,
		step{create(0), "51"}, step{create(1<<40 + 1), "51"}, step{appends(1, "\x07"), "53"}, step{read(1), `"" 53`}, step{remove(1), "53"},
		step{create(5), "0"}, step{create(5), "52"}, step{appends(5, "abc"), "0"}, step{room(), "133 0"}, step{list(), "[5] 0"},
		step{appends(5, strings.Repeat("x", 134)), "54"}, step{appends(5, strings.Repeat("x", 133)), "0"}, step{create(6), "54"}, step{appends(5, ""), "0"})
	d = fresh(t, 200)
	play(t, "examples", d,
		step{create(5), "0"}, step{appends(5, "abc"), "0"}, step{crash(3), "-"}, step{read(5), `"ab" 0`}, step{list(), "[5] 0"},
		step{appends(5, "xy"), "0"}, step{crash(1), "-"}, step{read(5), `"abx" 0`}, step{crash(7), "-"}, step{read(5), `"abx" 0`},
		step{remove(5), "0"}, step{create(5), "52"}, step{crash(1), "-"}, step{read(5), `"abx" 0`},
		step{remove(5), "0"}, step{syncs(), "0"}, step{create(5), "0"}, step{crash(), "-"}, step{list(), "[] 0"},
		step{arm(-1), "1"}, step{arm(1), "0"}, step{create(0), "51"}, step{create(1), "0"}, step{create(2), "56"}, step{down(), "true"}, step{list(), "[] 56"},
		step{arm(-1), "56"}, step{crash(1, 0), "-"}, step{down(), "false"}, step{list(), "[1] 0"},
		step{appends(1, "\x06"), "0"}, step{arm(0), "0"}, step{syncs(), "56"}, step{crash(), "-"}, step{read(1), `"" 0`},
		step{appends(1, "\x06"), "0"}, step{spoil(1, 1, 1), "55"}, step{spoil(1, 0, 3), "0"}, step{read(1), `"\x05" 0`})
}

// P5.1: New at, within and beyond the ends of a capacity.
func TestNew(t *testing.T) {
	for _, n := range []int{math.MinInt, -1 << 32, -1, 1<<26 + 1, 1 << 32, math.MaxInt} {
		if d, code := New(n); d != nil || code != api.ErrDiskSize {
			t.Errorf("P5.1: New(%d): %v, %d; want 50", n, d, code)
		}
	}
	for _, n := range []int{0, 1, 63, 64, 1000, 1<<26 - 1, 1 << 26} {
		d := fresh(t, n)
		play(t, "P5.1", d, step{down(), "false"}, step{list(), "[] 0"}, step{room(), fmt.Sprintf("%d 0", n)})
		if lasts(real{d}) != 8 {
			t.Errorf("P5.1: New(%d) is armed", n)
		}
		if want := whole(newModel(n)); whole(real{d}) != want {
			t.Errorf("P5.1: New(%d):\n%s\nwant:\n%s", n, whole(real{d}), want)
		}
	}
}

// mixed is a disk that has one of each: 1 is safe, 2 is grown, 3 is taken
// away (and had grown), 4 is new.
func mixed(t *testing.T) *Disk {
	t.Helper()
	return after(t, 1000, create(1), create(2), create(3), appends(1, "one"), appends(2, "two"), appends(3, "three"), syncs(),
		appends(2, "+more"), appends(3, "+lost"), remove(3), create(4), appends(4, "four"))
}

// P5.1: a copy has the same, and neither of both sees what is done to the other.
func TestCopy(t *testing.T) {
	makes := map[string][]call{
		"as it is":         nil,
		"armed with 0":     {arm(0)},
		"armed with 2":     {arm(2)},
		"off":              {arm(0), create(9)},
		"off by a Sync":    {arm(0), syncs()},
		"beyond its room":  {appends(1, strings.Repeat("x", 1000-64*3-3-8-4)), crash(9, 1, 9)},
		"without segments": {syncs(), remove(1), remove(2), remove(4), syncs()},
	}
	dones := [][]call{
		{crash()}, {crash(9, 1, 9)}, {crash(9, 1, 9), spoil(3, 0, 1), spoil(2, 7, 1)}, {syncs()}, {arm(1)}, {arm(0), syncs()},
		{spoil(1, 0, 1), spoil(2, 0, 1), spoil(2, 4, 1), spoil(4, 0, 1)},
		{appends(1, "x"), appends(2, "x"), appends(4, "x"), create(7)},
		{remove(1), remove(2), remove(4)},
	}
	for name, made := range makes {
		for _, done := range dones {
			for _, turn := range []bool{false, true} {
				d := mixed(t)
				for _, c := range made {
					c.do(real{d})
				}
				before := whole(real{d})
				e := d.Copy()
				if e == d || e == nil {
					t.Fatalf("P5.1: %s: the copy is no disk of its own", name)
				}
				if got := whole(real{e}); got != before {
					t.Errorf("P5.1: %s: the copy has\n%s\nwant\n%s", name, got, before)
				}
				if turn {
					d, e = e, d
				}
				for _, c := range done {
					c.do(real{d})
				}
				if got := whole(real{e}); got != before {
					t.Errorf("P5.1: %s: %s is seen in the other (turned: %t):\n%s\nwant\n%s", name, done[0].name, turn, got, before)
				}
			}
		}
	}
}

// everyCall has each call that has an error, with arguments that are right and wrong.
func everyCall() []call {
	return []call{
		list(), room(), syncs(),
		create(9), create(1), create(3), create(0), create(-1), create(1<<40 + 1),
		appends(1, "x"), appends(1, ""), appends(9, "x"), appends(1, strings.Repeat("x", 2000)),
		read(1), read(9), remove(1), remove(9), arm(5), arm(-1),
		spoil(1, 0, 1), spoil(1, 9, 1), spoil(9, 0, 1),
	}
}

// P5.2: while the power is off each call is refused by that, whatever else is wrong.
func TestOff(t *testing.T) {
	want := map[string]string{"List": "[] 56", "Room": "0 56", "Read(1)": `"" 56`, "Read(9)": `"" 56`}
	for _, last := range []call{create(8), appends(2, "x"), appends(1, ""), remove(1), syncs()} {
		d := mixed(t)
		play(t, "P5.2", d, step{arm(0), "0"}, step{last, "56"}, step{down(), "true"})
		for _, c := range everyCall() {
			w := want[c.name]
			if w == "" {
				w = "56"
			}
			refuses(t, "P5.2", d, c, w)
		}
		if b, code := d.Read(1); len(b) != 0 || code != api.ErrDiskDown {
			t.Errorf("P5.2: Read: %q, %d", b, code)
		}
		if l, code := d.List(); len(l) != 0 || code != api.ErrDiskDown {
			t.Errorf("P5.2: List: %v, %d", l, code)
		}
		if !d.Down() || !d.Copy().Down() {
			t.Error("P5.2: the power is on")
		}
		if _, code := New(-1); code != api.ErrDiskSize {
			t.Error("P5.2: New hangs on another disk")
		}
	}
}

// P5.3: each row's errors, and their order where several apply.
func TestErrors(t *testing.T) {
	// no room is left but for two bytes
	tight := func() *Disk {
		return after(t, 200, create(1), appends(1, "12345"), create(2), syncs(), appends(1, "x"), remove(2), create(3))
	}
	play(t, "P5.3", tight(), step{room(), "66 0"})
	full := func() *Disk {
		d := tight()
		d.Append(1, make([]byte, 64))
		return d
	}
	play(t, "P5.3", full(), step{room(), "2 0"})
	for _, n := range []int{math.MinInt, -1 << 40, -1, 0, 1<<40 + 1, 1 << 41, math.MaxInt} {
		refuses(t, "P5.3", tight(), create(n), "51")
		refuses(t, "P5.3, ahead of no room", full(), create(n), "51")
	}
	for _, n := range []int{1, 2, 3} {
		refuses(t, "P5.3", tight(), create(n), "52")
		refuses(t, "P5.3, ahead of no room", full(), create(n), "52")
	}
	refuses(t, "P5.3", full(), create(4), "54")
	for _, n := range []int{math.MinInt, -1, 0, 2, 4, 1<<40 + 1, math.MaxInt} {
		for _, d := range []*Disk{tight(), full()} {
			refuses(t, "P5.3", d, appends(n, ""), "53")
			refuses(t, "P5.3", d, appends(n, "x"), "53")
			refuses(t, "P5.3, ahead of no room", d, appends(n, strings.Repeat("x", 300)), "53")
			refuses(t, "P5.3", d, read(n), `"" 53`)
			refuses(t, "P5.3", d, remove(n), "53")
			refuses(t, "P5.3", d, spoil(n, 0, 1), "53")
			refuses(t, "P5.3, ahead of the place", d, spoil(n, -1, 1), "53")
		}
	}
	refuses(t, "P5.3", tight(), appends(1, strings.Repeat("x", 67)), "54")
	refuses(t, "P5.3", full(), appends(1, "xyz"), "54")
	refuses(t, "P5.3", full(), appends(3, "xyz"), "54")
	for _, n := range []int{math.MinInt, -2, -1} {
		refuses(t, "P5.3", tight(), arm(n), "1")
	}
	for _, at := range []int{math.MinInt, -1, 6, 7, math.MaxInt} {
		refuses(t, "P5.3", tight(), spoil(1, at, 1), "55")
	}
	for _, at := range []int{-1, 0, 1} {
		refuses(t, "P5.3, without bytes", tight(), spoil(3, at, 1), "55")
	}
}

// P5.3: Create at the ends of a number and of the room.
func TestCreate(t *testing.T) {
	d := fresh(t, 1000)
	play(t, "P5.3", d,
		step{create(1), "0"}, step{create(1 << 40), "0"}, step{create(7), "0"}, step{read(7), `"" 0`},
		step{list(), "[1 7 1099511627776] 0"}, step{room(), "808 0"},
		step{create(1), "52"}, step{remove(1), "0"}, step{create(1), "0"}, step{list(), "[1 7 1099511627776] 0"})
	play(t, "P5.3", fresh(t, 63), step{create(1), "54"}, step{list(), "[] 0"})
	play(t, "P5.3", fresh(t, 64), step{create(1), "0"}, step{room(), "0 0"}, step{create(2), "54"}, step{create(1), "52"})
	play(t, "P5.3", fresh(t, 65), step{create(1), "0"}, step{room(), "1 0"}, step{create(2), "54"})
	play(t, "P5.3", fresh(t, 128), step{create(1), "0"}, step{create(2), "0"}, step{room(), "0 0"})
	play(t, "P5.3, taken away", after(t, 200, create(1), syncs(), remove(1)),
		step{create(1), "52"}, step{list(), "[] 0"}, step{syncs(), "0"}, step{create(1), "0"}, step{list(), "[1] 0"})
	play(t, "P5.3, it stayed away", after(t, 200, create(1), syncs(), remove(1), crash()), step{create(1), "0"})
}

// P5.3: List tells rising numbers, however they came.
func TestList(t *testing.T) {
	r := chance(50)
	for n := range 60 {
		d := fresh(t, 1<<20)
		var want []int
		for range n {
			seg := 1 + r.Intn(1<<uint(1+r.Intn(39)))
			if !slices.Contains(want, seg) {
				want = append(want, seg)
			}
			d.Create(seg)
		}
		slices.Sort(want)
		for range 3 {
			if got, code := d.List(); !slices.Equal(got, want) || code != api.OK {
				t.Fatalf("P5.3: List: %v, %d; want %v", got, code, want)
			}
		}
	}
}

// P5.3: Append lays bytes behind bytes, up to the last that there is room for.
func TestAppend(t *testing.T) {
	play(t, "P5.3", after(t, 200, create(1), create(2)),
		step{appends(1, ""), "0"}, step{read(1), `"" 0`}, step{appends(1, "ab"), "0"}, step{appends(2, "x"), "0"}, step{appends(1, ""), "0"},
		step{appends(1, "c"), "0"}, step{read(1), `"abc" 0`}, step{read(2), `"x" 0`}, step{room(), "68 0"},
		step{appends(2, strings.Repeat("y", 69)), "54"}, step{appends(2, strings.Repeat("y", 68)), "0"}, step{room(), "0 0"},
		step{appends(1, "z"), "54"}, step{appends(1, ""), "0"}, step{read(1), `"abc" 0`}, step{read(2), fmt.Sprintf("%q 0", "x"+strings.Repeat("y", 68))})
	d := after(t, 1<<26, create(1))
	var want []byte
	r := chance(51)
	for range 2000 {
		b := make([]byte, r.Intn(100))
		r.Read(b)
		want = append(want, b...)
		if code := d.Append(1, b); code != api.OK {
			t.Fatal(code)
		}
	}
	if got, code := d.Read(1); !bytes.Equal(got, want) || code != api.OK {
		t.Error("P5.3: the bytes are not what was laid")
	}
}

// P5.3: Remove and Sync.
func TestRemoveSync(t *testing.T) {
	d := mixed(t)
	play(t, "P5.3", d, step{list(), "[1 2 4] 0"}, step{room(), fmt.Sprintf("%d 0", 1000-3*64-3-8-4)},
		step{remove(2), "0"}, step{list(), "[1 4] 0"}, step{read(2), `"" 53`}, step{remove(2), "53"}, step{room(), fmt.Sprintf("%d 0", 1000-2*64-3-4)},
		step{remove(4), "0"}, step{list(), "[1] 0"}, step{create(4), "0"}, step{read(4), `"" 0`},
		step{create(2), "52"}, step{create(3), "52"}, step{syncs(), "0"}, step{create(2), "0"}, step{create(3), "0"}, step{read(2), `"" 0`})
	for _, fate := range [][]int{nil, {9, 9, 9, 9}} {
		d := mixed(t)
		play(t, "P5.3", d, step{syncs(), "0"}, step{crash(fate...), "-"}, step{list(), "[1 2 4] 0"},
			step{read(1), `"one" 0`}, step{read(2), `"two+more" 0`}, step{read(4), `"four" 0`})
	}
}

// P5.3: Spoil turns bits in what is there, and, where the byte is safe, in what is safe.
func TestSpoil(t *testing.T) {
	made := []call{create(1), appends(1, "ab"), syncs(), appends(1, "cd")}
	for at := range 4 {
		for _, mask := range []byte{0, 1, 0x80, 0xff} {
			want := []byte("abcd")
			want[at] ^= mask
			d := after(t, 100, made...)
			play(t, "P5.3", d, step{spoil(1, at, mask), "0"}, step{read(1), fmt.Sprintf("%q 0", want)}, step{room(), "32 0"})
			for f := range 3 {
				e := d.Copy()
				e.Crash([]int{f})
				play(t, "P5.3", e, step{read(1), fmt.Sprintf("%q 0", want[:2+f])})
			}
			play(t, "P5.3, then taken away", d, step{remove(1), "0"}, step{crash(1), "-"}, step{read(1), fmt.Sprintf("%q 0", want[:2])})
		}
	}
	play(t, "P5.3, spoilt twice", after(t, 100, made...), step{spoil(1, 1, 6), "0"}, step{spoil(1, 1, 6), "0"}, step{read(1), `"abcd" 0`})
	play(t, "P5.3, it makes nothing open to loss", after(t, 100, create(1), appends(1, "ab"), syncs()),
		step{spoil(1, 0, 3), "0"}, step{crash(0), "-"}, step{read(1), `"bb" 0`})
}

// P5.4: an armed disk, with 0 and with more: what the last call does, and which calls count.
func TestArmed(t *testing.T) {
	lastly := []struct {
		last call
		want string // behind a Crash that leaves all
	}{
		{create(8), "1:one 2:two+more 3:three 4:four 8:"},
		{appends(2, "!"), "1:one 2:two+more! 3:three 4:four"},
		{appends(1, "!"), "1:one! 2:two+more 3:three 4:four"},
		{appends(1, ""), "1:one 2:two+more 3:three 4:four"},
		{remove(4), "1:one 2:two+more 3:three"},
		{remove(2), "1:one 2:two 3:three 4:four"},
		{syncs(), "1:one 2:two+more 3:three 4:four"},
	}
	for _, l := range lastly {
		d := mixed(t)
		play(t, "P5.4", d, step{arm(0), "0"}, step{down(), "false"}, step{l.last, "56"}, step{down(), "true"}, step{crash(9, 9, 9, 9, 9), "-"})
		if got := held(real{d}); got != l.want {
			t.Errorf("P5.4: %s, the last one, left %s; want %s", l.last.name, got, l.want)
		}
		if lasts(real{d}) != 8 {
			t.Error("P5.4: it is armed still")
		}
	}
	for n := range 5 {
		d := after(t, 1000, create(1), arm(n))
		for range n {
			for _, c := range []call{create(0), create(1), appends(9, "x"), remove(9), appends(1, strings.Repeat("x", 999)), spoil(1, 0, 1), read(1), list(), room(), arm(-1), down()} {
				c.do(real{d})
			}
			play(t, "P5.4", d, step{appends(1, ""), "0"}, step{down(), "false"})
		}
		play(t, "P5.4", d, step{create(0), "51"}, step{create(2), "56"}, step{down(), "true"})
	}
	play(t, "P5.4, armed anew", fresh(t, 1000), step{arm(0), "0"}, step{arm(2), "0"}, step{create(1), "0"}, step{arm(1), "0"}, step{syncs(), "0"}, step{syncs(), "56"})
	play(t, "P5.4, armed with much", fresh(t, 1000), step{arm(math.MaxInt), "0"}, step{create(1), "0"}, step{syncs(), "0"}, step{down(), "false"})
	play(t, "P5.4, a full disk", after(t, 64, create(1), arm(0)), step{create(2), "54"}, step{appends(1, "x"), "54"}, step{down(), "false"}, step{remove(1), "56"})
}

// P5.5: one segment of each kind, with each fate, the power on and off.
func TestCrashOne(t *testing.T) {
	far := []int{math.MinInt, math.MinInt + 1, -1 << 32, -1, 0, 1, 2, 3, 4, 5, 6, 1 << 32, math.MaxInt - 1, math.MaxInt}
	kinds := []struct {
		name string
		made []call
		left []string // by fates from 0 on; the last one is that of all greater ones
	}{
		{"grown", []call{create(5), appends(5, "ab"), syncs(), appends(5, "cde")}, []string{"5:ab", "5:abc", "5:abcd", "5:abcde"}},
		{"grown from none", []call{create(5), syncs(), appends(5, "cd")}, []string{"5:", "5:c", "5:cd"}},
		{"grown twice", []call{create(5), appends(5, "a"), syncs(), appends(5, "b"), appends(5, "c")}, []string{"5:a", "5:ab", "5:abc"}},
		{"new", []call{create(5), appends(5, "abc")}, []string{"", "5:", "5:a", "5:ab", "5:abc"}},
		{"new, without bytes", []call{create(5)}, []string{"", "5:"}},
		{"taken away", []call{create(5), appends(5, "abc"), syncs(), remove(5)}, []string{"", "5:abc"}},
		{"taken away, grown", []call{create(5), appends(5, "abc"), syncs(), appends(5, "de"), remove(5)}, []string{"", "5:abc"}},
		{"taken away, without bytes", []call{create(5), syncs(), remove(5)}, []string{"", "5:"}},
		{"safe", []call{create(5), appends(5, "abc"), syncs(), appends(5, "")}, []string{"5:abc"}},
		{"none", []call{create(5), remove(5)}, []string{""}},
	}
	for _, k := range kinds {
		for _, off := range []bool{false, true} {
			for _, f := range far {
				for _, fate := range [][]int{{f}, {f, 7, -7}, nil} {
					d := after(t, 200, k.made...)
					if off {
						play(t, "P5.5", d, step{arm(0), "0"}, step{syncs(), "56"})
					}
					if fate == nil {
						f = 0
					}
					crashed(t, k.name, d, fate, k.left[min(max(f, 0), len(k.left)-1)])
				}
			}
		}
	}
}

// crashed holds what a Crash leaves against what is wanted, and that all of it is safe.
func crashed(t *testing.T, name string, d *Disk, fate []int, want string) {
	t.Helper()
	d.Crash(fate)
	for range 2 {
		if got := held(real{d}); got != want {
			t.Errorf("P5.5: %s, Crash(%v): %s; want %s", name, fate, got, want)
		}
		d.Crash([]int{0, 1, 2, 3})
	}
	if d.Down() || lasts(real{d}) != 8 {
		t.Errorf("P5.5: %s, Crash(%v): the power is off, or it is armed", name, fate)
	}
}

// P5.5: fates of every length, over segments of which some are open to loss.
func TestCrashSeveral(t *testing.T) {
	// 10 grown, 20 safe, 30 taken away, 40 new, 50 safe, 60 grown
	made := []call{create(60), create(50), create(30), create(20), create(10), appends(10, "ab"), appends(60, "cd"), appends(30, "ef"), appends(20, "gh"), appends(50, "ij"), syncs(),
		appends(60, "CD"), create(40), appends(10, "AB"), appends(40, "kl"), remove(30), appends(20, "")}
	want := []string{
		"10:ab 20:gh 50:ij 60:cd",
		"10:abA 20:gh 50:ij 60:cd",
		"10:abA 20:gh 30:ef 50:ij 60:cd",
		"10:abA 20:gh 30:ef 40:k 50:ij 60:cd",
		"10:abA 20:gh 30:ef 40:k 50:ij 60:cdCD",
	}
	fate := []int{1, 1, 2, 3, -9, 9, 9}
	for n := range len(fate) + 1 {
		for _, off := range []bool{false, true} {
			d := after(t, 1000, made...)
			if off {
				play(t, "P5.5", d, step{arm(0), "0"}, step{appends(50, ""), "56"})
			}
			crashed(t, fmt.Sprint("several, off: ", off), d, fate[:n], want[min(n, 4)])
		}
	}
}

// P5.5: what was lost is not to be found again, by whatever grows in its
// place; it does not stand in the room behind a segment's bytes either.
func TestLostIsLost(t *testing.T) {
	all := map[string]*Disk{
		"new":        after(t, 1000, create(1), appends(1, "safe+lost"), crash(5)),
		"grown":      after(t, 1000, create(1), appends(1, "safe"), syncs(), appends(1, "+lost"), crash()),
		"taken away": after(t, 1000, create(1), appends(1, "safe"), syncs(), appends(1, "+lost"), remove(1), crash(1)),
	}
	for name, d := range all {
		spare := d.there[1][4:cap(d.there[1])]
		if strings.Trim(string(spare), "\x00") != "" {
			t.Errorf("P5.5: %s: lost bytes stand behind a segment's: %q", name, spare)
		}
		play(t, "P5.5, "+name, d, step{appends(1, "x"), "0"}, step{crash(9), "-"}, step{read(1), `"safex" 0`}, step{room(), "931 0"})
	}
}

// P5.6: what is handed in is neither changed nor kept, its spare room neither.
func TestHandedIn(t *testing.T) {
	d := after(t, 1000, create(1), create(2))
	b := []byte("abcdefgh")
	for range 3 {
		for _, seg := range []int{1, 2} {
			if code := d.Append(seg, b[:3]); code != api.OK {
				t.Fatal(code)
			}
		}
	}
	d.Append(1, []byte("zzzz"))
	d.Spoil(1, 0, 255)
	d.Spoil(2, 0, 255)
	if string(b) != "abcdefgh" {
		t.Errorf("P5.6: Append changed what it was handed: %q", b)
	}
	for i := range b {
		b[i] = '?'
	}
	play(t, "P5.6", d, step{read(1), `"\x9ebcabcabczzzz" 0`}, step{read(2), `"\x9ebcabcabc" 0`})
	fate := []int{3, 2, 77, 78}
	d.Crash(fate[:1])
	if !slices.Equal(fate, []int{3, 2, 77, 78}) {
		t.Errorf("P5.6: Crash changed its fate: %v", fate)
	}
	play(t, "P5.6, the spare room of a fate is not looked at", d, step{list(), "[1] 0"}, step{read(1), `"\x9eb" 0`})
}

// P5.6: what is answered is new memory, its spare room too.
func TestAnswered(t *testing.T) {
	d := mixed(t)
	before := whole(real{d})
	for _, seg := range []int{1, 2, 4} {
		one, _ := d.Read(seg)
		two, _ := d.Read(seg)
		want := string(two)
		one = one[:cap(one)]
		for i := range one {
			one[i] = '?'
		}
		if string(two) != want {
			t.Errorf("P5.6: two answers of Read(%d) share memory", seg)
		}
	}
	one, _ := d.List()
	two, _ := d.List()
	one = one[:cap(one)]
	for i := range one {
		one[i] = -7
	}
	if !slices.Equal(two, []int{1, 2, 4}) {
		t.Errorf("P5.6: two answers of List share memory: %v", two)
	}
	if got := whole(real{d}); got != before {
		t.Errorf("P5.6: the disk sees what is done to its answers:\n%s\nwant\n%s", got, before)
	}
	got, _ := d.Read(2)
	d.Append(2, []byte("xxxx"))
	d.Spoil(2, 0, 255)
	d.Crash(nil)
	if string(got) != "two+more" {
		t.Errorf("P5.6: an answer sees what is done to the disk: %q", got)
	}
}
