package queue

import (
	"math/rand"
	"slices"
	"strconv"
	"testing"

	"escapement/api"
)

// same does a call to the queue and to the model, and holds both against each other.
func same(t *testing.T, q, m drive, c call, told, things []string) bool {
	t.Helper()
	got, want := c.do(q), c.do(m)
	if got != want {
		t.Errorf("P8.2 to P8.5: behind %v, %s: %s; want %s", told, c.name, got, want)
		return false
	}
	if a, b := whole(q, things...), whole(m, things...); a != b {
		t.Errorf("P8.1 to P8.6: behind %v and %s:\n%s\nwant\n%s", told, c.name, a, b)
		return false
	}
	return true
}

// Every row of a few calls, with few places and with enough.
func TestEveryRow(t *testing.T) {
	for _, places := range []int{1, 2, 3, 4} {
		t.Run(strconv.Itoa(places), func(t *testing.T) {
			t.Parallel()
			everyRow(t, places, 5)
		})
	}
}

func everyRow(t *testing.T, places, length int) {
	things := []string{"a", "b", "c", "d"}
	calls := []call{push("a"), push("b"), push("c"), push("d"), remove("a"), remove("b"), remove("c"), pop(), front()}
	var goOn func(row []call) bool
	goOn = func(row []call) bool {
		if len(row) == length {
			return rowIsSame(t, places, row, things)
		}
		for _, c := range calls {
			if !goOn(append(slices.Clip(row), c)) {
				return false
			}
		}
		return true
	}
	goOn(nil)
}

// rowIsSame does a row of calls to a queue and to a model.
func rowIsSame(t *testing.T, places int, row []call, things []string) bool {
	t.Helper()
	q, m := fresh(t, places), newModel(places)
	var told []string
	for _, c := range row {
		if !same(t, q, m, c, told, things) {
			return false
		}
		told = append(told, c.name)
	}
	return true
}

// names are so many things.
func names(n int) []string {
	list := make([]string, n)
	for i := range list {
		list[i] = strconv.Itoa(i)
	}
	return list
}

// someCall is a call of one of the things; how often it is a Push is told.
func someCall(r *rand.Rand, things []string, pushes int) call {
	k := things[r.Intn(len(things))]
	if r.Intn(10) < pushes {
		return push(k)
	}
	switch r.Intn(5) {
	case 0, 1:
		return remove(k)
	case 2, 3:
		return pop()
	}
	return ahead(k)
}

// Long walks of all calls, beside the model, in which the queue fills and empties.
func TestWalks(t *testing.T) {
	t.Parallel()
	full, empty, gone := 0, 0, 0
	for seed := range int64(120) {
		r := chance(seed)
		places := 1 + r.Intn(40)
		things := names(places + r.Intn(8))
		q, m := fresh(t, places), newModel(places)
		var told []string
		for i := range 400 {
			c := someCall(r, things, []int{8, 5, 2}[i/20%3])
			before := m.Len()
			if !same(t, q, m, c, told, things) {
				return
			}
			told = append(told, c.name)
			if m.Len() == places {
				full++
			}
			if m.Len() == 0 {
				empty++
			}
			gone += max(before-m.Len(), 0)
		}
	}
	if full < 1000 || empty < 1000 || gone < 5000 {
		t.Errorf("%d times full, %d times empty, %d things gone: the walks do not lead about", full, empty, gone)
	}
}

// P8.5: each All of a walk tells the same at its end as when it was called.
func TestAllStays(t *testing.T) {
	t.Parallel()
	for seed := range int64(60) {
		r := chance(seed + 500)
		q := fresh(t, 1+r.Intn(20))
		things := names(24)
		var asked []func() string
		var told []string
		for i := range 200 {
			s := q.All()
			asked = append(asked, func() string { return tell(pairs(s)) })
			told = append(told, all().do(q))
			someCall(r, things, []int{8, 5, 2}[i/10%3]).do(q)
		}
		for i, ask := range asked {
			if got := ask(); got != told[i] {
				t.Fatalf("P8.5: seed %d, All that was called ahead of call %d: %s; want %s", seed, i, got, told[i])
			}
		}
	}
}

// P8.7: what Pop takes off comes in the order in which it was pushed; each push
// is popped, or removed, once, or stands there still.
func TestFirstInFirstOut(t *testing.T) {
	t.Parallel()
	for seed := range int64(100) {
		r := chance(seed + 1000)
		places := 1 + r.Intn(30)
		q := fresh(t, places)
		things := names(places + 3)
		fate := map[int]string{} // of each number
		last := map[string]int{} // the number that each thing had last
		popped := 0
		for range 500 {
			k := things[r.Intn(len(things))]
			switch r.Intn(4) {
			case 0, 1:
				if n, code := q.Push(k); code == api.OK {
					if fate[n] != "" || n != len(fate)+1 {
						t.Fatalf("P8.2: seed %d: the number %d is given behind %d numbers", seed, n, len(fate))
					}
					if n, code := q.Ahead(k); n != q.Len()-1 || code != api.OK {
						t.Fatalf("P8.7: seed %d: %s was pushed, and %d of %d stand ahead of it", seed, k, n, q.Len())
					}
					fate[n], last[k] = "there", n
				}
			case 2:
				if q.Remove(k) == api.OK {
					if fate[last[k]] != "there" {
						t.Fatalf("P8.7: seed %d: %s was removed, and had been %s", seed, k, fate[last[k]])
					}
					fate[last[k]] = "removed"
				}
			case 3:
				if k, ok := q.Pop(); ok {
					if last[k] <= popped || fate[last[k]] != "there" {
						t.Fatalf("P8.7: seed %d: Pop took off number %d (%s) behind number %d", seed, last[k], fate[last[k]], popped)
					}
					popped = last[k]
					fate[popped] = "popped"
				}
			}
		}
		for n, k := range q.All() {
			if fate[n] != "there" || last[k] != n {
				t.Fatalf("P8.7: seed %d: number %d is there, and had been %s", seed, n, fate[n])
			}
			fate[n] = "told"
		}
		for n, f := range fate {
			if f == "there" {
				t.Fatalf("P8.7: seed %d: number %d was neither popped nor removed, and is not there", seed, n)
			}
		}
	}
}

// P8.7: pushed anew a thing stands at the end, and has a new number.
func TestPushedAnew(t *testing.T) {
	for _, off := range []call{remove("a"), pop()} {
		q := filled(t, 4, "a", "b", "c", "d")
		off.do(q)
		play(t, "P8.7", q, step{push("a"), "5 0"}, step{ahead("a"), "3 0"}, step{all(), "[(2 b)(3 c)(4 d)(5 a)]"},
			step{pop(), `"b" true`}, step{pop(), `"c" true`}, step{pop(), `"d" true`}, step{pop(), `"a" true`}, step{pop(), `"" false`})
	}
	q := filled(t, 4, "a", "b", "c", "d")
	play(t, "P8.7", q, step{remove("c"), "0"}, step{push("c"), "5 0"}, step{remove("c"), "0"}, step{push("c"), "6 0"}, step{all(), "[(1 a)(2 b)(4 d)(6 c)]"},
		step{ahead("c"), "3 0"}, step{ahead("d"), "2 0"}, step{remove("a"), "0"}, step{ahead("c"), "2 0"}, step{push("a"), "7 0"}, step{ahead("a"), "3 0"})
}

// P8.8: along All the numbers rise, and Ahead tells how many Pops come before.
func TestNumbersAndAhead(t *testing.T) {
	t.Parallel()
	for seed := range int64(100) {
		r := chance(seed + 2000)
		places := 1 + r.Intn(40)
		things := names(places + 5)
		q := fresh(t, places)
		for range 150 {
			someCall(r, things, 6).do(q)
			before := 0
			for n := range q.All() {
				if n <= before {
					t.Fatalf("P8.8: seed %d: along All: %s", seed, all().do(q))
				}
				before = n
			}
		}
		before := map[string]int{}
		for _, k := range things {
			if n, code := q.Ahead(k); code == api.OK {
				before[k] = n
			}
		}
		for pops := 0; q.Len() > 0; pops++ {
			k, _ := q.Pop()
			if n, ok := before[k]; !ok || n != pops {
				t.Fatalf("P8.8: seed %d: Ahead(%s) was %d (%v), and %d Pops came before", seed, k, n, ok, pops)
			}
			delete(before, k)
			q.Push("late " + k + strconv.Itoa(pops))
			q.Remove("late " + k + strconv.Itoa(pops))
		}
		if len(before) > 0 {
			t.Fatalf("P8.8: seed %d: not popped: %v", seed, before)
		}
	}
}

// P8.8: what is pushed meanwhile does not come before.
func TestAheadWhilePushed(t *testing.T) {
	q := filled(t, 6, "a", "b", "c")
	play(t, "P8.8", q, step{ahead("c"), "2 0"}, step{push("d"), "4 0"}, step{ahead("c"), "2 0"}, step{pop(), `"a" true`}, step{ahead("c"), "1 0"},
		step{push("a"), "5 0"}, step{pop(), `"b" true`}, step{ahead("c"), "0 0"}, step{push("b"), "6 0"}, step{pop(), `"c" true`}, step{ahead("c"), "0 83"})
}

// A queue with all its places goes on, from wherever things are taken out.
func TestMany(t *testing.T) {
	const many = 1 << 16
	shapes := map[string]func(r *rand.Rand, n int) int{
		"from the front":           func(r *rand.Rand, n int) int { return 0 },
		"from the end":             func(r *rand.Rand, n int) int { return n - 1 },
		"from the middle":          func(r *rand.Rand, n int) int { return n / 2 },
		"from a third":             func(r *rand.Rand, n int) int { return n / 3 },
		"from anywhere":            func(r *rand.Rand, n int) int { return r.Intn(n) },
		"from both ends in turn":   func(r *rand.Rand, n int) int { return n % 2 * (n - 1) },
		"from beside both ends":    func(r *rand.Rand, n int) int { return min(1+n%2*(n-1), max(n-2, 0)) },
		"first one half, then all": func(r *rand.Rand, n int) int { return min(many/2, n-1) },
	}
	for name, shape := range shapes {
		t.Run(name, func(t *testing.T) {
			t.Parallel()
			r := chance(8)
			q, _ := New[int](many)
			want := make([]int, many)
			for i := range many {
				q.Push(i)
				want[i] = i
			}
			for n := many; n > many/4; n-- {
				at := shape(r, n)
				k := want[at]
				if ahead, code := q.Ahead(k); ahead != at || code != api.OK || q.Remove(k) != api.OK || q.Len() != n-1 {
					t.Fatalf("P8.4: of %d things Ahead(%d): %d, %d; want %d; or it can not be taken out", n, k, ahead, code, at)
				}
				want = slices.Delete(want, at, at+1)
			}
			goesOn(t, q, want)
		})
	}
}

// goesOn turns a great queue round, and takes all off.
func goesOn(t *testing.T, q *Queue[int], want []int) {
	t.Helper()
	n := 1 << 16
	for i := range 3 * len(want) {
		n++
		if number, code := q.Push(-i - 1); number != n || code != api.OK {
			t.Fatalf("P8.2: Push number %d: %d, %d", n, number, code)
		}
		want = append(want, -i-1)
		if k, ok := q.Pop(); !ok || k != want[0] {
			t.Fatalf("P8.7: Pop: %d, %v; want %d", k, ok, want[0])
		}
		want = want[1:]
	}
	s := q.All()
	for range 2 {
		var told []int
		for _, k := range s {
			told = append(told, k)
		}
		if !slices.Equal(told, want) {
			t.Fatal("P8.5: All of a great queue")
		}
	}
	for _, x := range want {
		if k, ok := q.Pop(); !ok || k != x {
			t.Fatalf("P8.7: Pop: %d, %v; want %d", k, ok, x)
		}
	}
	if _, ok := q.Pop(); ok || q.Len() != 0 {
		t.Errorf("P8.7: behind all %d are there", q.Len())
	}
}
