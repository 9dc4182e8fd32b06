package wheel

import (
	"iter"
	"math"
	"runtime"
	"slices"
	"strconv"
	"testing"
	"weak"

	"escapement/api"
)

// The chapter's examples, row by row.
func TestExamples(t *testing.T) {
	for _, now := range []int{-1, 1<<62 + 1} {
		if w, code := New[string](now); w != nil || code != api.ErrWheelTime {
			t.Errorf("examples: New(%d): %v, %d; want nil, 70", now, w, code)
		}
	}
	play(t, "examples", fresh(t, 5),
		step{schedule(7, "a"), "1 0"}, step{schedule(5, "b"), "2 0"}, step{schedule(7, "c"), "3 0"}, step{schedule(4, "d"), "0 70"}, step{length(), "3"},
		step{all(), "[(2, 5, b)(1, 7, a)(3, 7, c)]"},
		step{next(4), "(0, 0, ) false"}, step{now(), "5"},
		step{next(6), "(2, 5, b) true"}, step{now(), "5"},
		step{next(6), "(0, 0, ) false"}, step{now(), "6"},
		step{schedule(6, "e"), "4 0"}, step{cancel(1), "0"}, step{cancel(1), "71"}, step{find(3), "(3, 7, c) 0"}, step{find(2), "(0, 0, ) 71"}, step{length(), "2"},
		step{advance(7), "[(4, 6, e)(3, 7, c)] 0"}, step{now(), "7"}, step{length(), "0"},
		step{advance(6), "[] 70"}, step{advance(7), "[] 0"}, step{now(), "7"},
		step{schedule(1<<62, "z"), "5 0"}, step{schedule(1<<62+1, "y"), "0 70"},
		step{next(1<<62 + 1), "(0, 0, ) false"}, step{now(), "7"}, step{next(1 << 62), "(5, 4611686018427387904, z) true"}, step{now(), "4611686018427387904"},
		step{schedule(1<<62, "x"), "6 0"}, step{next(1 << 62), "(6, 4611686018427387904, x) true"}, step{now(), "4611686018427387904"})
}

// P7.1: New at, within and beyond the ends of time.
func TestNew(t *testing.T) {
	for _, n := range []int{math.MinInt, -1 << 62, -1 << 32, -1, 1<<62 + 1, 1<<62 + 64, 1<<62 + 1<<32, math.MaxInt} {
		if w, code := New[string](n); w != nil || code != api.ErrWheelTime {
			t.Errorf("P7.1: New(%d): %v, %d; want nil, 70", n, w, code)
		}
		if w, code := New[struct{}](n); w != nil || code != api.ErrWheelTime {
			t.Errorf("P7.1: New[struct{}](%d): %v, %d; want nil, 70", n, w, code)
		}
	}
	for _, n := range edges() {
		play(t, "P7.1", fresh(t, n), step{now(), strconv.Itoa(n)}, step{length(), "0"}, step{all(), "[]"},
			step{find(0), "(0, 0, ) 71"}, step{find(1), "(0, 0, ) 71"}, step{cancel(1), "71"},
			step{advance(n), "[] 0"}, step{next(n), "(0, 0, ) false"}, step{now(), strconv.Itoa(n)}, step{schedule(n, "a"), "1 0"})
	}
}

// P7.1: Now and Len, behind each kind of call.
func TestNowAndLen(t *testing.T) {
	play(t, "P7.1", fresh(t, 10),
		step{schedule(10, "a"), "1 0"}, step{length(), "1"}, step{now(), "10"},
		step{schedule(5000, "b"), "2 0"}, step{length(), "2"}, step{now(), "10"},
		step{schedule(80, "c"), "3 0"}, step{length(), "3"}, step{now(), "10"},
		step{cancel(1), "0"}, step{length(), "2"}, step{now(), "10"},
		step{find(2), "(2, 5000, b) 0"}, step{length(), "2"}, step{now(), "10"},
		step{all(), "[(3, 80, c)(2, 5000, b)]"}, step{length(), "2"}, step{now(), "10"},
		step{next(70), "(0, 0, ) false"}, step{length(), "2"}, step{now(), "70"},
		step{next(90), "(3, 80, c) true"}, step{length(), "1"}, step{now(), "80"},
		step{advance(4999), "[] 0"}, step{length(), "1"}, step{now(), "4999"},
		step{advance(6000), "[(2, 5000, b)] 0"}, step{length(), "0"}, step{now(), "6000"})
}

// P7.2: Schedule refuses what is behind Now or beyond the end, and uses no number for it.
func TestSchedule(t *testing.T) {
	for _, n := range edges() {
		w := fresh(t, n)
		for _, due := range []int{math.MinInt, -1, n - 1, n - 64, n - 4096, 1<<62 + 1, 1<<62 + 64, math.MaxInt} {
			if due < n || due > 1<<62 {
				refuses(t, "P7.2", w, schedule(due, "no"), "0 70")
			}
		}
		id := 0
		for _, due := range []int{n, n, n + 1, n + 63, n + 64, n + 4096, 1<<62 - 1, 1 << 62} {
			if due < n || due > 1<<62 {
				continue
			}
			id++
			play(t, "P7.2", w, step{schedule(due, "x"), strconv.Itoa(id) + " 0"}, step{length(), strconv.Itoa(id)},
				step{find(id), tell(Timer[string]{id, due, "x"}) + " 0"})
			refuses(t, "P7.2", w, schedule(n-1, "no"), "0 70")
			refuses(t, "P7.2", w, schedule(1<<62+1, "no"), "0 70")
		}
	}
}

// P7.2: what may be told goes with Now.
func TestScheduleBehindNow(t *testing.T) {
	w := fresh(t, 0)
	play(t, "P7.2", w, step{schedule(100, "a"), "1 0"}, step{next(200), "(1, 100, a) true"})
	refuses(t, "P7.2", w, schedule(99, "no"), "0 70")
	play(t, "P7.2", w, step{schedule(100, "b"), "2 0"}, step{next(100), "(2, 100, b) true"}, step{next(150), "(0, 0, ) false"})
	refuses(t, "P7.2", w, schedule(149, "no"), "0 70")
	play(t, "P7.2", w, step{schedule(150, "c"), "3 0"}, step{advance(5000), "[(3, 150, c)] 0"})
	refuses(t, "P7.2", w, schedule(4999, "no"), "0 70")
	play(t, "P7.2", w, step{schedule(5000, "d"), "4 0"})
}

// P7.2: numbers are never used again: behind a cancel, a take off, a refusal, an empty wheel.
func TestNumbers(t *testing.T) {
	w := fresh(t, 0)
	play(t, "P7.2", w, step{schedule(5, "a"), "1 0"}, step{cancel(1), "0"}, step{schedule(5, "b"), "2 0"}, step{schedule(3, "c"), "3 0"},
		step{cancel(3), "0"}, step{schedule(4, "d"), "4 0"}, step{next(9), "(4, 4, d) true"}, step{schedule(3, "no"), "0 70"}, step{schedule(6, "e"), "5 0"},
		step{advance(9), "[(2, 5, b)(5, 6, e)] 0"}, step{length(), "0"}, step{schedule(9, "f"), "6 0"}, step{cancel(2), "71"}, step{cancel(5), "71"}, step{find(6), "(6, 9, f) 0"})
}

// P7.3: Cancel and Find of what is there, never was, was cancelled, was taken off.
func TestCancelAndFind(t *testing.T) {
	w := fresh(t, 10)
	for i, due := range []int{10, 20, 20, 20, 500, 1 << 62, 70, 11} {
		w.Schedule(due, string(rune('a'+i)))
	}
	play(t, "P7.3", w, step{find(1), "(1, 10, a) 0"}, step{find(1), "(1, 10, a) 0"}, step{find(6), "(6, 4611686018427387904, f) 0"}, step{length(), "8"},
		step{cancel(3), "0"}, step{next(10), "(1, 10, a) true"}, step{advance(11), "[(8, 11, h)] 0"})
	// 3 was cancelled, 1 and 8 were taken off, all others never were.
	for _, id := range []int{math.MinInt, -5, -1, 0, 1, 3, 8, 9, 10, 1 << 40, math.MaxInt} {
		refuses(t, "P7.3", w, cancel(id), "71")
		refuses(t, "P7.3", w, find(id), "(0, 0, ) 71")
	}
	play(t, "P7.3", w, step{all(), "[(2, 20, b)(4, 20, d)(7, 70, g)(5, 500, e)(6, 4611686018427387904, f)]"},
		step{cancel(6), "0"}, step{cancel(2), "0"}, step{cancel(5), "0"}, step{find(5), "(0, 0, ) 71"}, step{all(), "[(4, 20, d)(7, 70, g)]"}, step{length(), "2"},
		step{cancel(4), "0"}, step{cancel(7), "0"}, step{length(), "0"}, step{all(), "[]"}, step{advance(1 << 62), "[] 0"})
}

// P7.3: of a row of timers of one time, and of one slot, any may be cancelled in any order.
func TestCancelInRows(t *testing.T) {
	rows := [][]int{{100, 100, 100, 100}, {101, 100, 103, 102}, {5000, 4999, 5000, 4998}, {3, 3, 3, 3}, {1 << 62, 1<<62 - 1, 1 << 62, 1 << 61}}
	orders := [][]int{{1, 2, 3, 4}, {4, 3, 2, 1}, {2, 3, 1, 4}, {3, 1, 4, 2}, {1, 4, 2, 3}, {2, 1, 4, 3}}
	for _, row := range rows {
		for _, order := range orders {
			for n := range 5 {
				w, m := fresh(t, 2), newModel(2)
				for i, due := range row {
					schedule(due, strconv.Itoa(i)).do(w)
					schedule(due, strconv.Itoa(i)).do(m)
				}
				for _, id := range order[:n] {
					play(t, "P7.3", w, step{cancel(id), "0"})
					m.Cancel(id)
				}
				if got, want := whole(w, 4), whole(m, 4); got != want {
					t.Fatalf("P7.3: of %v cancelled %v:\n%s\nwant\n%s", row, order[:n], got, want)
				}
				w.Schedule(row[0], "late")
				m.Schedule(row[0], "late")
				if got, want := advance(1<<62).do(w), advance(1<<62).do(m); got != want {
					t.Fatalf("P7.3, P7.7: of %v cancelled %v: Advance: %s; want %s", row, order[:n], got, want)
				}
			}
		}
	}
}

// P7.4, P7.5: Next and Advance below Now and above the last time: nothing, and
// nothing changes, whether a timer is due or not.
func TestTimesThatMayNotBe(t *testing.T) {
	for _, n := range []int{1, 63, 64, 4096, 1<<36 + 7, 1<<62 - 1, 1 << 62} {
		w := fresh(t, n)
		for _, due := range []int{-1, n, n + 1, 1 << 62} {
			w.Schedule(due, "x")
			for _, to := range []int{math.MinInt, -1, 0, n - 1, 1<<62 + 1, math.MaxInt} {
				refuses(t, "P7.4", w, next(to), "(0, 0, ) false")
				refuses(t, "P7.5", w, advance(to), "[] 70")
			}
		}
	}
}

// P7.4: Next takes one timer, stands at its Due, and behind the last one at to.
func TestNext(t *testing.T) {
	play(t, "P7.4", fresh(t, 50),
		step{schedule(60, "a"), "1 0"}, step{schedule(60, "b"), "2 0"}, step{schedule(70, "c"), "3 0"}, step{schedule(50, "d"), "4 0"},
		step{next(50), "(4, 50, d) true"}, step{now(), "50"}, step{next(50), "(0, 0, ) false"}, step{now(), "50"},
		step{next(59), "(0, 0, ) false"}, step{now(), "59"}, step{length(), "3"},
		step{next(60), "(1, 60, a) true"}, step{now(), "60"}, step{length(), "2"},
		step{next(1 << 62), "(2, 60, b) true"}, step{now(), "60"},
		step{schedule(60, "e"), "5 0"}, step{schedule(64, "f"), "6 0"},
		step{next(1 << 62), "(5, 60, e) true"}, step{now(), "60"}, step{next(1 << 62), "(6, 64, f) true"}, step{now(), "64"},
		step{next(69), "(0, 0, ) false"}, step{now(), "69"}, step{next(100), "(3, 70, c) true"}, step{now(), "70"},
		step{next(100), "(0, 0, ) false"}, step{now(), "100"}, step{next(1 << 62), "(0, 0, ) false"}, step{now(), "4611686018427387904"},
		step{schedule(1<<62, "g"), "7 0"}, step{schedule(1<<62, "h"), "8 0"}, step{next(1 << 62), "(7, 4611686018427387904, g) true"},
		step{next(1 << 62), "(8, 4611686018427387904, h) true"}, step{next(1 << 62), "(0, 0, ) false"}, step{now(), "4611686018427387904"})
}

// P7.4: from each time to each, over all ends of slots: not a tick early, not one late.
func TestNextAtEdges(t *testing.T) {
	times := edges()
	for i, from := range times {
		for _, due := range times[i:] {
			w := fresh(t, from)
			w.Schedule(due, "x")
			for _, to := range times[i:] {
				if to >= due {
					break
				}
				play(t, "P7.4", w, step{next(to), "(0, 0, ) false"}, step{now(), strconv.Itoa(to)})
			}
			if due > from {
				play(t, "P7.4", w, step{next(due - 1), "(0, 0, ) false"}, step{now(), strconv.Itoa(due - 1)}, step{length(), "1"})
			}
			play(t, "P7.4", w, step{next(due), tell(Timer[string]{1, due, "x"}) + " true"}, step{now(), strconv.Itoa(due)}, step{length(), "0"})
		}
	}
}

// P7.5: Advance over many timers of one time and of several.
func TestAdvance(t *testing.T) {
	w := fresh(t, 5)
	for i, due := range []int{9, 5, 9, 4000, 9, 5, 70, 10, 1 << 62, 1<<62 - 1, 70} {
		w.Schedule(due, string(rune('a'+i)))
	}
	play(t, "P7.5", w,
		step{advance(5), "[(2, 5, b)(6, 5, f)] 0"}, step{now(), "5"}, step{length(), "9"}, step{advance(5), "[] 0"}, step{advance(8), "[] 0"}, step{now(), "8"},
		step{schedule(8, "l"), "12 0"}, step{schedule(9, "m"), "13 0"},
		step{advance(70), "[(12, 8, l)(1, 9, a)(3, 9, c)(5, 9, e)(13, 9, m)(8, 10, h)(7, 70, g)(11, 70, k)] 0"}, step{now(), "70"}, step{length(), "3"},
		step{advance(3999), "[] 0"}, step{now(), "3999"}, step{advance(4095), "[(4, 4000, d)] 0"}, step{now(), "4095"},
		step{advance(1<<62 - 1), "[(10, 4611686018427387903, j)] 0"}, step{now(), "4611686018427387903"}, step{length(), "1"},
		step{advance(1 << 62), "[(9, 4611686018427387904, i)] 0"}, step{now(), "4611686018427387904"}, step{length(), "0"}, step{advance(1 << 62), "[] 0"})
	w = fresh(t, 0)
	for i := range 1000 {
		w.Schedule(777, strconv.Itoa(i+1))
	}
	list, code := w.Advance(777)
	for i, x := range list {
		if x != (Timer[string]{i + 1, 777, strconv.Itoa(i + 1)}) {
			t.Fatalf("P7.5: of a thousand timers of one time, number %d: %v", i, x)
		}
	}
	if len(list) != 1000 || code != api.OK {
		t.Errorf("P7.5: of a thousand timers of one time %d came, %d", len(list), code)
	}
}

// P7.6: All is in the order, and shows what was there when it was called.
func TestAll(t *testing.T) {
	w := fresh(t, 1)
	none := w.All()
	for i, due := range []int{9, 1 << 62, 9, 1, 5000, 1<<61 + 1, 1 << 61, 9, 64, 1, 63} {
		w.Schedule(due, string(rune('a'+i)))
	}
	some := w.All()
	want := "[(4, 1, d)(10, 1, j)(1, 9, a)(3, 9, c)(8, 9, h)(11, 63, k)(9, 64, i)(5, 5000, e)(7, 2305843009213693952, g)(6, 2305843009213693953, f)(2, 4611686018427387904, b)]"
	show := func(promise string, s iter.Seq[Timer[string]], want string) {
		t.Helper()
		if got := "[" + tellAll(slices.Collect(s)) + "]"; got != want {
			t.Errorf("P7.6: %s: %s; want %s", promise, got, want)
		}
	}
	show("ahead of all timers", none, "[]")
	show("as it is", some, want)
	show("once more", some, want)
	w.Cancel(1)
	show("behind Cancel", some, want)
	w.Next(1)
	show("behind Next", some, want)
	w.Advance(100)
	show("behind Advance", some, want)
	w.Schedule(100, "new")
	show("behind Schedule", some, want)
	few := w.All()
	show("called anew", few, "[(12, 100, new)(5, 5000, e)(7, 2305843009213693952, g)(6, 2305843009213693953, f)(2, 4611686018427387904, b)]")
	w.Advance(1 << 62)
	show("called anew, behind the end", few, "[(12, 100, new)(5, 5000, e)(7, 2305843009213693952, g)(6, 2305843009213693953, f)(2, 4611686018427387904, b)]")
	show("behind the end", some, want)
	show("ahead of all timers, behind the end", none, "[]")
	show("called at the end", w.All(), "[]")
}

// P7.6: left early, again, within itself, and step by step.
func TestAllLeftAndNested(t *testing.T) {
	w := fresh(t, 0)
	for _, due := range []int{3, 1, 200} {
		w.Schedule(due, "x")
	}
	s := w.All()
	for n := range 4 {
		var ids []int
		for x := range s {
			if len(ids) == n {
				break
			}
			ids = append(ids, x.ID)
		}
		if !slices.Equal(ids, []int{2, 1, 3}[:n]) {
			t.Errorf("P7.6: left behind %d: %v", n, ids)
		}
	}
	asked := 0
	s(func(Timer[string]) bool { asked++; return asked < 2 })
	if asked != 2 {
		t.Errorf("P7.6: left behind 2, and %d were told", asked)
	}
	var pairs []int
	for x := range s {
		for y := range s {
			pairs = append(pairs, x.ID*10+y.ID)
		}
		for y := range w.All() {
			pairs = append(pairs, 100+y.ID)
			break
		}
	}
	if !slices.Equal(pairs, []int{22, 21, 23, 102, 12, 11, 13, 102, 32, 31, 33, 102}) {
		t.Errorf("P7.6: within itself: %v", pairs)
	}
	one, leave := iter.Pull(s)
	two, leaveToo := iter.Pull(s)
	defer leaveToo()
	one()
	one()
	a, _ := one()
	b, _ := two()
	leave()
	if a.ID != 3 || b.ID != 2 {
		t.Errorf("P7.6: two at a time: %v, %v", a, b)
	}
	s(nil)
	fresh(t, 0).All()(nil)
}

// P7.6: while it is gone through the wheel is changed; neither sees the other.
func TestAllWhileChanged(t *testing.T) {
	changes := map[string]func(w *Wheel[string], x Timer[string]){
		"Cancel of it":      func(w *Wheel[string], x Timer[string]) { w.Cancel(x.ID) },
		"Cancel of another": func(w *Wheel[string], x Timer[string]) { w.Cancel(x.ID%5 + 1) },
		"Schedule":          func(w *Wheel[string], x Timer[string]) { w.Schedule(w.Now(), "new"); w.Schedule(300, "new") },
		"Next":              func(w *Wheel[string], x Timer[string]) { w.Next(1 << 62) },
		"Advance":           func(w *Wheel[string], x Timer[string]) { w.Advance(max(x.Due, w.Now())) },
		"Advance to the end, and Schedule": func(w *Wheel[string], x Timer[string]) {
			w.Advance(1 << 62)
			w.Schedule(1<<62, "new")
		},
	}
	for name, change := range changes {
		w := fresh(t, 0)
		for i, due := range []int{300, 2, 2, 5000, 70} {
			w.Schedule(due, string(rune('a'+i)))
		}
		var told []Timer[string]
		s := w.All()
		for x := range s {
			told = append(told, x)
			change(w, x)
		}
		if got := tellAll(told); got != "(2, 2, b)(3, 2, c)(5, 70, e)(1, 300, a)(4, 5000, d)" || !slices.Equal(slices.Collect(s), told) {
			t.Errorf("P7.6: %s while All is gone through: %s", name, got)
		}
	}
	w := fresh(t, 0)
	w.Schedule(1, "a")
	w.Schedule(2, "b")
	for x := range w.All() {
		if w.Cancel(x.ID) != api.OK {
			t.Errorf("P7.6: Cancel(%d) while All is gone through", x.ID)
		}
	}
	if w.Len() != 0 {
		t.Errorf("P7.6: all are cancelled while All is gone through, and %d are there", w.Len())
	}
}

// The thing is any value; it is kept and handed out as it is.
func TestWhat(t *testing.T) {
	one, _ := New[*int](0)
	p, q := new(int), new(int)
	one.Schedule(4, p)
	one.Schedule(3, q)
	one.Schedule(2, nil)
	found, _ := one.Find(1)
	first, _ := one.Next(9)
	second, _ := one.Next(9)
	rest, _ := one.Advance(9)
	if found.What != p || first.What != nil || second.What != q || len(rest) != 1 || rest[0].What != p {
		t.Errorf("P7.2 to P7.5: things that are pointers: %v %v %v %v", found, first, second, rest)
	}
	lists, _ := New[[]int](0)
	room := make([]int, 2, 5)
	lists.Schedule(0, room)
	x, _ := lists.Find(1)
	x.What[0] = 7
	x.What = append(x.What, 8)
	y, _ := lists.Next(0)
	if room[0] != 7 || room[:3][2] != 8 || len(y.What) != 2 || cap(y.What) != 5 || &y.What[0] != &room[0] {
		t.Errorf("P7.2: a thing that is a list is not handed out as it is: %v %v", room, y)
	}
	odd, _ := New[any](0)
	odd.Schedule(1, math.NaN())
	odd.Schedule(1, func() int { return 9 })
	odd.Schedule(1, nil)
	list, _ := odd.Advance(1)
	if len(list) != 3 || list[0].What.(float64) == list[0].What.(float64) || list[1].What.(func() int)() != 9 || list[2].What != nil {
		t.Errorf("P7.2: things of many kinds: %v", list)
	}
	empty, _ := New[struct{}](0)
	empty.Schedule(1, struct{}{})
	empty.Schedule(1, struct{}{})
	if few, _ := empty.Advance(1); len(few) != 2 || few[0].ID != 1 || few[1].ID != 2 {
		t.Errorf("P7.2: things that have nothing: %v", few)
	}
}

// What is answered is new memory: who writes into it changes nothing else.
func TestMemory(t *testing.T) {
	w := fresh(t, 0)
	for i := range 20 {
		w.Schedule(i%4, strconv.Itoa(i))
	}
	s := w.All()
	before := tellAll(slices.Collect(s))
	first, _ := w.Advance(1)
	kept := slices.Clone(first)
	there := whole(w, 20)
	second, _ := w.Advance(3)
	for _, list := range [][]Timer[string]{second, second[:cap(second)]} {
		for i := range list {
			list[i] = Timer[string]{-1, -1, "spoilt"}
		}
	}
	if !slices.Equal(first, kept) || tellAll(slices.Collect(s)) != before {
		t.Errorf("P7.5, P7.6: answers share memory")
	}
	w.Schedule(3, "new")
	spare := first[:cap(first)]
	for i := range spare {
		spare[i] = Timer[string]{-1, -1, "spoilt"}
	}
	if got := whole(w, 21); got == there || all().do(w) != "[(21, 3, new)]" || tellAll(slices.Collect(s)) != before {
		t.Errorf("P7.5: an answer that is written into shows: %s", got)
	}
}

// Nothing of a timer is kept that was cancelled or taken off.
func TestNothingIsKept(t *testing.T) {
	type big struct{ room [1000]int }
	w, _ := New[*big](0)
	var weaks []weak.Pointer[big]
	for i := range 60 {
		b := new(big)
		weaks = append(weaks, weak.Make(b))
		w.Schedule(i%3*1000, b)
	}
	w.Advance(0)
	for range 10 {
		w.Next(1000)
	}
	for id := 1; id <= 60; id++ {
		w.Cancel(id)
	}
	runtime.GC()
	runtime.GC()
	for i, p := range weaks {
		if p.Value() != nil {
			t.Fatalf("the thing of timer %d is still kept", i+1)
		}
	}
	if w.Len() != 0 {
		t.Errorf("P7.1: %d are there", w.Len())
	}
}

// Two wheels have nothing to do with each other.
func TestTwoWheels(t *testing.T) {
	a, b := fresh(t, 0), fresh(t, 3)
	play(t, "two wheels", a, step{schedule(5, "a"), "1 0"}, step{schedule(900, "b"), "2 0"})
	play(t, "two wheels", b, step{length(), "0"}, step{schedule(5, "c"), "1 0"}, step{find(2), "(0, 0, ) 71"}, step{cancel(1), "0"}, step{advance(10), "[] 0"})
	play(t, "two wheels", a, step{now(), "0"}, step{length(), "2"}, step{find(1), "(1, 5, a) 0"}, step{schedule(1, "d"), "3 0"}, step{advance(6), "[(3, 1, d)(1, 5, a)] 0"})
	play(t, "two wheels", b, step{now(), "10"}, step{schedule(10, "e"), "2 0"}, step{all(), "[(2, 10, e)]"})
	play(t, "two wheels", a, step{all(), "[(2, 900, b)]"})
}
