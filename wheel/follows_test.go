package wheel

import (
	"fmt"
	"math/rand"
	"slices"
	"sort"
	"strconv"
	"testing"

	"escapement/api"
)

// same does a call to the wheel and to the model, and holds both against each other.
func same(t *testing.T, w, m drive, c call, told []string) bool {
	t.Helper()
	got, want := c.do(w), c.do(m)
	if got != want {
		t.Errorf("P7.2 to P7.6: behind %v, %s: %s; want %s", told, c.name, got, want)
		return false
	}
	if a, b := whole(w, len(told)), whole(m, len(told)); a != b {
		t.Errorf("P7.1 to P7.6: behind %v and %s:\n%s\nwant\n%s", told, c.name, a, b)
		return false
	}
	return true
}

// Every row of a few calls, from begins beside the ends of slots.
func TestEveryRow(t *testing.T) {
	for _, begin := range []int{0, 63, 4095, 1<<60 - 1, 1<<62 - 64} {
		t.Run(strconv.Itoa(begin), func(t *testing.T) {
			t.Parallel()
			everyRow(t, begin)
		})
	}
}

func everyRow(t *testing.T, begin int) {
	all := []call{
		schedule(begin, "a"), schedule(begin+1, "b"), schedule(begin+2, "c"), schedule(begin+64, "d"), cancel(1), cancel(2),
		next(begin), next(begin + 1), next(begin + 65), advance(begin + 1), advance(begin + 63), advance(begin + 64),
	}
	row := make([]int, 4)
	for {
		w, m := fresh(t, begin), newModel(begin)
		var told []string
		for _, i := range row {
			if !same(t, w, m, all[i], told) {
				return
			}
			told = append(told, all[i].name)
		}
		k := 0
		for k < len(row) && row[k] == len(all)-1 {
			row[k] = 0
			k++
		}
		if k == len(row) {
			return
		}
		row[k]++
	}
}

// near is a time some way behind from, often at or beside the end of a slot,
// of whatever level; seldom one that may not be.
func near(r *rand.Rand, from int) int {
	switch r.Intn(12) {
	case 0:
		return from
	case 1:
		return from - 1 - r.Intn(3)
	case 2:
		return 1<<62 - 2 + r.Intn(4)
	case 3, 4, 5:
		return from + r.Intn(5)
	case 6, 7:
		return from + r.Intn(200)
	}
	unit := 1 << (6 * r.Intn(11))
	if far := from/unit*unit + unit*(1+r.Intn(3)) + r.Intn(3) - 1; far >= from {
		return far
	}
	return from + r.Intn(70)
}

// someCall is a call that makes sense to a wheel that is as the model is.
func someCall(r *rand.Rand, m *model) call {
	switch r.Intn(12) {
	case 0, 1, 2, 3, 4:
		return schedule(near(r, m.now), strconv.Itoa(m.told))
	case 5:
		if m.Len() > 0 { // at a time that another one has
			return schedule(m.list[r.Intn(m.Len())].Due, strconv.Itoa(m.told))
		}
		return schedule(m.now, "")
	case 6, 7:
		return cancel(r.Intn(m.told+3) - 1)
	case 8, 9:
		return next(near(r, m.now))
	case 10:
		if m.Len() > 0 {
			return next(m.list[r.Intn(m.Len())].Due - r.Intn(2))
		}
		return next(m.now)
	}
	return advance(near(r, m.now))
}

// Long walks of all calls, beside the model.
func TestWalks(t *testing.T) {
	t.Parallel()
	times := edges()
	came := 0
	for seed := range int64(250) {
		r := chance(seed)
		begin := times[r.Intn(len(times))]
		w, m := fresh(t, begin), newModel(begin)
		var told []string
		for range 120 {
			c := someCall(r, m)
			before := m.Len()
			if !same(t, w, m, c, told) {
				return
			}
			told = append(told, c.name)
			came += max(before-m.Len(), 0)
		}
	}
	if came < 5000 {
		t.Errorf("only %d timers came or were cancelled: the walks do not lead about", came)
	}
}

// filled is a wheel with timers over all levels, some of one time, some cancelled.
func filled(t *testing.T, seed int64, begin int) *Wheel[string] {
	t.Helper()
	r := chance(seed)
	w := fresh(t, begin)
	for i := range 80 {
		if id, _ := w.Schedule(near(r, begin), strconv.Itoa(i)); id > 0 && r.Intn(4) == 0 {
			w.Cancel(1 + r.Intn(id))
		}
	}
	return w
}

// P7.7: in steps or at once, by Advance or by Next, all comes as All has told it.
func TestStepsOrAtOnce(t *testing.T) {
	t.Parallel()
	times := edges()
	for seed := range int64(300) {
		r := chance(seed + 1000)
		begin := times[r.Intn(len(times))]
		whole := slices.Collect(filled(t, seed, begin).All())
		steps, single := filled(t, seed, begin), filled(t, seed, begin)
		at := begin
		var off []Timer[string]
		for ended := false; !ended; ended = at == 1<<62 {
			at = max(at, min(near(r, at), 1<<62))
			if r.Intn(20) == 0 {
				at = 1 << 62
			}
			list, code := steps.Advance(at)
			off = append(off, list...)
			left := whole[len(off):]
			if code != api.OK || !slices.Equal(off, whole[:len(off)]) || len(left) > 0 && left[0].Due <= at || len(off) > 0 && off[len(off)-1].Due > at {
				t.Fatalf("P7.7: seed %d, Advance(%d): %s; of %s", seed, at, tellAll(list), tellAll(whole))
			}
			for _, x := range list {
				if y, ok := single.Next(at); !ok || y != x || single.Now() != x.Due {
					t.Fatalf("P7.7: seed %d, Next(%d): %v, %v; want %v", seed, at, y, ok, x)
				}
			}
			if y, ok := single.Next(at); ok || y != (Timer[string]{}) || single.Now() != at || steps.Now() != at {
				t.Fatalf("P7.7: seed %d, Next(%d) behind all: %v, %v", seed, at, y, ok)
			}
			if !slices.Equal(slices.Collect(steps.All()), left) || !slices.Equal(slices.Collect(single.All()), left) {
				t.Fatalf("P7.7: seed %d, behind %d not all are there that are due later", seed, at)
			}
		}
		if at, code := filled(t, seed, begin).Advance(1 << 62); code != api.OK || !slices.Equal(at, off) || !slices.Equal(at, whole) {
			t.Fatalf("P7.7: seed %d: at once %s, in steps %s", seed, tellAll(at), tellAll(off))
		}
	}
}

// P7.7: Cancel takes just that timer, wherever the others stand by then.
func TestCancelTakesOne(t *testing.T) {
	t.Parallel()
	times := edges()
	for seed := range int64(40) {
		r := chance(seed + 2000)
		begin := times[r.Intn(len(times))]
		at := max(begin, min(near(r, begin), 1<<62))
		w := filled(t, seed, begin)
		w.Advance(at)
		there := slices.Collect(w.All())
		for i, x := range there {
			w := filled(t, seed, begin)
			w.Advance(at)
			w.Cancel(x.ID)
			want := slices.Delete(slices.Clone(there), i, i+1)
			if got, _ := w.Advance(1 << 62); !slices.Equal(got, want) {
				t.Fatalf("P7.7: seed %d: without %s came %s; want %s", seed, tell(x), tellAll(got), tellAll(want))
			}
		}
	}
}

// P7.7: timers of one time come by their numbers, from wherever and whenever they were told.
func TestOneTime(t *testing.T) {
	for _, due := range []int{4096, 4095, 1 << 30, 1<<62 - 1, 1 << 62} {
		w := fresh(t, 0)
		at, id := 0, 0
		for at < due {
			at = max(at+1, due-(due-at)/3)
			for range 2 {
				id++
				w.Schedule(due, strconv.Itoa(id))
			}
			w.Advance(min(at, due-1))
		}
		w.Schedule(due, "last")
		list, _ := w.Advance(due)
		if len(list) != id+1 || !slices.IsSortedFunc(list, func(a, b Timer[string]) int { return a.ID - b.ID }) {
			t.Errorf("P7.7: of one time, %d: %s", due, tellAll(list))
		}
	}
}

// A wheel with a hundred thousand timers goes on: due anywhere, at one time,
// or in a few slots; taken off one by one, at once, or cancelled.
func TestMany(t *testing.T) {
	const many = 100000
	ways := map[string]func(r *rand.Rand, i int) int{
		"anywhere":           func(r *rand.Rand, i int) int { return int(r.Uint64() >> 2) },
		"at every size":      func(r *rand.Rand, i int) int { return int(r.Uint64() >> (2 + r.Intn(62))) },
		"at one time":        func(r *rand.Rand, i int) int { return 1 << 61 },
		"at the end":         func(r *rand.Rand, i int) int { return 1<<62 - r.Intn(100) },
		"one behind another": func(r *rand.Rand, i int) int { return i },
		"falling":            func(r *rand.Rand, i int) int { return 1<<62 - i*1000003 },
	}
	for name, due := range ways {
		t.Run(name, func(t *testing.T) {
			t.Parallel()
			r := chance(7)
			w, _ := New[int](0)
			var want []Timer[int]
			for i := range many {
				x := Timer[int]{i + 1, due(r, i), i}
				if id, code := w.Schedule(x.Due, i); id != x.ID || code != api.OK {
					t.Fatalf("P7.2: Schedule(%d): %d, %d; want %d", x.Due, id, code, x.ID)
				}
				want = append(want, x)
			}
			want = slices.DeleteFunc(want, func(x Timer[int]) bool { return x.ID%4 == 0 && w.Cancel(x.ID) == api.OK })
			sort.SliceStable(want, func(i, k int) bool { return want[i].Due < want[k].Due })
			if w.Len() != many*3/4 || !slices.Equal(slices.Collect(w.All()), want) {
				t.Fatalf("P7.6: All of %d timers", w.Len())
			}
			if err := takeOff(w, want); err != nil {
				t.Fatal(err)
			}
		})
	}
}

// takeOff takes off half of them one by one, then all others at once.
func takeOff(w *Wheel[int], want []Timer[int]) error {
	half := len(want) / 2
	for i, x := range want[:half] {
		if y, ok := w.Next(1 << 62); !ok || y != x || w.Now() != x.Due {
			return fmt.Errorf("P7.7: the timer number %d: %v, %v; want %v", i, y, ok, x)
		}
	}
	if list, code := w.Advance(1 << 62); code != api.OK || !slices.Equal(list, want[half:]) || w.Len() != 0 || w.Now() != 1<<62 {
		return fmt.Errorf("P7.5: Advance to the end: %d timers, %d", len(list), code)
	}
	return nil
}
