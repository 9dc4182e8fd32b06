package queue

import (
	"iter"
	"math"
	"runtime"
	"slices"
	"strconv"
	"testing"
	"weak"

	"escapement/api"
)

// The chapter's examples, row by row.
func TestExamples(t *testing.T) {
	for _, n := range []int{0, 1<<16 + 1} {
		if q, code := New[string](n); q != nil || code != api.ErrQueueSize {
			t.Errorf("examples: New(%d): %v, %d; want nil, 80", n, q, code)
		}
	}
	fresh(t, 1<<16)
	q := fresh(t, 2)
	play(t, "examples", q,
		step{pop(), `"" false`}, step{front(), `"" false`}, step{length(), "0"},
		step{push("b"), "1 0"}, step{push("a"), "2 0"}, step{push("a"), "0 81"}, step{push("c"), "0 82"}, step{length(), "2"},
		step{ahead("a"), "1 0"}, step{ahead("b"), "0 0"}, step{ahead("c"), "0 83"}, step{front(), `"b" true`},
		step{all(), "[(1 b)(2 a)]"},
		step{remove("b"), "0"}, step{remove("b"), "83"}, step{push("b"), "3 0"}, step{all(), "[(2 a)(3 b)]"})
	asked := q.All()
	play(t, "examples", q,
		step{pop(), `"a" true`}, step{push("a"), "4 0"}, step{pop(), `"b" true`}, step{pop(), `"a" true`}, step{pop(), `"" false`})
	if got := tell(pairs(asked)); got != "[(2 a)(3 b)]" {
		t.Errorf("examples: All that was asked before: %s", got)
	}
}

// P8.1: New at, within and beyond the ends of what a capacity may be.
func TestNew(t *testing.T) {
	for _, n := range []int{math.MinInt, -1 << 32, -1 << 16, -2, -1, 0, 1<<16 + 1, 1<<16 + 2, 1 << 17, 1 << 32, 1<<32 + 1, math.MaxInt} {
		if q, code := New[string](n); q != nil || code != api.ErrQueueSize {
			t.Errorf("P8.1: New(%d): %v, %d; want nil, 80", n, q, code)
		}
		if q, code := New[struct{}](n); q != nil || code != api.ErrQueueSize {
			t.Errorf("P8.1: New[struct{}](%d): %v, %d; want nil, 80", n, q, code)
		}
	}
	for _, n := range []int{1, 2, 3, 100, 1<<16 - 1, 1 << 16} {
		play(t, "P8.1", fresh(t, n), step{length(), "0"}, step{all(), "[]"}, step{pop(), `"" false`}, step{front(), `"" false`},
			step{ahead(""), "0 83"}, step{remove(""), "83"}, step{push(""), "1 0"}, step{length(), "1"})
	}
}

// P8.1: a queue has just as many places as it was asked for.
func TestPlaces(t *testing.T) {
	for _, n := range []int{1, 2, 3, 7, 8, 9, 1000, 1<<16 - 1, 1 << 16} {
		q, _ := New[int](n)
		for i := range n {
			if number, code := q.Push(i); number != i+1 || code != api.OK || q.Len() != i+1 {
				t.Fatalf("P8.2: with %d places Push(%d): %d, %d", n, i, number, code)
			}
		}
		if number, code := q.Push(-1); number != 0 || code != api.ErrQueueFull || q.Len() != n {
			t.Errorf("P8.2: with %d places all taken, Push: %d, %d; want 0, 82", n, number, code)
		}
	}
}

// P8.1: Len, behind each kind of call.
func TestLen(t *testing.T) {
	play(t, "P8.1", fresh(t, 3),
		step{push("a"), "1 0"}, step{length(), "1"}, step{push("b"), "2 0"}, step{length(), "2"}, step{push("a"), "0 81"}, step{length(), "2"},
		step{push("c"), "3 0"}, step{length(), "3"}, step{push("d"), "0 82"}, step{length(), "3"}, step{front(), `"a" true`}, step{length(), "3"},
		step{ahead("c"), "2 0"}, step{length(), "3"}, step{all(), "[(1 a)(2 b)(3 c)]"}, step{length(), "3"}, step{remove("b"), "0"}, step{length(), "2"},
		step{remove("b"), "83"}, step{length(), "2"}, step{pop(), `"a" true`}, step{length(), "1"}, step{pop(), `"c" true`}, step{length(), "0"},
		step{pop(), `"" false`}, step{length(), "0"}, step{push("a"), "4 0"}, step{length(), "1"})
}

// P8.2: what is there is told ahead of that no place is left; neither changes anything.
func TestPushRefused(t *testing.T) {
	q := filled(t, 3, "b", "a")
	leaves(t, "P8.2", q, push("b"), "0 81")
	leaves(t, "P8.2", q, push("a"), "0 81")
	play(t, "P8.2", q, step{push("c"), "3 0"})
	for _, k := range []string{"a", "b", "c"} {
		leaves(t, "P8.2", q, push(k), "0 81")
	}
	for _, k := range []string{"", "d", "no", "A", "a "} {
		leaves(t, "P8.2", q, push(k), "0 82")
	}
	play(t, "P8.2", q, step{pop(), `"b" true`})
	leaves(t, "P8.2", q, push("c"), "0 81")
	play(t, "P8.2", q, step{push("d"), "4 0"})
	leaves(t, "P8.2", q, push("b"), "0 82")
	play(t, "P8.2", q, step{remove("a"), "0"}, step{push("b"), "5 0"}, step{all(), "[(3 c)(4 d)(5 b)]"})
}

// P8.2: with one place both errors are there too.
func TestOnePlace(t *testing.T) {
	play(t, "P8.2", fresh(t, 1),
		step{push("a"), "1 0"}, step{push("a"), "0 81"}, step{push("b"), "0 82"}, step{ahead("a"), "0 0"}, step{front(), `"a" true`},
		step{pop(), `"a" true`}, step{push("b"), "2 0"}, step{push("a"), "0 82"}, step{remove("a"), "83"}, step{remove("b"), "0"},
		step{front(), `"" false`}, step{push("a"), "3 0"}, step{all(), "[(3 a)]"})
}

// P8.2: numbers are never given again: behind a Pop, a Remove, a refusal, in an empty queue.
func TestNumbers(t *testing.T) {
	play(t, "P8.2", fresh(t, 2),
		step{push("a"), "1 0"}, step{pop(), `"a" true`}, step{push("a"), "2 0"}, step{remove("a"), "0"}, step{push("a"), "3 0"},
		step{push("a"), "0 81"}, step{push("b"), "4 0"}, step{push("c"), "0 82"}, step{push("d"), "0 82"}, step{remove("b"), "0"},
		step{push("b"), "5 0"}, step{all(), "[(3 a)(5 b)]"}, step{pop(), `"a" true`}, step{pop(), `"b" true`}, step{pop(), `"" false`},
		step{push("c"), "6 0"}, step{all(), "[(6 c)]"})
}

// P8.3: Pop and Front, with things and without; the zero value of K is a thing too.
func TestPopAndFront(t *testing.T) {
	q := fresh(t, 5)
	leaves(t, "P8.3", q, pop(), `"" false`)
	leaves(t, "P8.3", q, front(), `"" false`)
	q = filled(t, 5, "c", "", "b", "a")
	for i, want := range []string{`"c" true`, `"" true`, `"b" true`, `"a" true`} {
		leaves(t, "P8.3", q, front(), want)
		leaves(t, "P8.3", q, front(), want)
		play(t, "P8.3", q, step{pop(), want}, step{length(), strconv.Itoa(3 - i)})
	}
	leaves(t, "P8.3", q, front(), `"" false`)
	leaves(t, "P8.3", q, pop(), `"" false`)
	play(t, "P8.3", q, step{push(""), "5 0"}, step{front(), `"" true`}, step{pop(), `"" true`}, step{front(), `"" false`})
}

// P8.3: what was popped is not there any more.
func TestPopped(t *testing.T) {
	q := filled(t, 3, "a", "b", "c")
	play(t, "P8.3", q, step{pop(), `"a" true`}, step{ahead("a"), "0 83"}, step{remove("a"), "83"}, step{all(), "[(2 b)(3 c)]"},
		step{ahead("b"), "0 0"}, step{ahead("c"), "1 0"}, step{push("a"), "4 0"}, step{ahead("a"), "2 0"})
}

// P8.4: Remove and Ahead of what is not there: never was, was popped, was removed.
func TestNone(t *testing.T) {
	q := fresh(t, 4)
	leaves(t, "P8.4", q, remove(""), "83")
	leaves(t, "P8.4", q, ahead(""), "0 83")
	q = filled(t, 4, "a", "b", "c", "d")
	play(t, "P8.4", q, step{pop(), `"a" true`}, step{remove("c"), "0"})
	for _, k := range []string{"", "a", "c", "e", "no", "B"} {
		leaves(t, "P8.4", q, remove(k), "83")
		leaves(t, "P8.4", q, ahead(k), "0 83")
	}
	leaves(t, "P8.4", q, ahead("b"), "0 0")
	leaves(t, "P8.4", q, ahead("d"), "1 0")
	play(t, "P8.4", q, step{all(), "[(2 b)(4 d)]"})
}

// P8.4: of rows of every length any may be taken out, in any order: the others
// stay in their order, with their numbers.
func TestRemoveInRows(t *testing.T) {
	for n := 1; n <= 6; n++ {
		names := []string{"a", "b", "c", "d", "e", "f"}[:n]
		var orders func(gone []string)
		orders = func(gone []string) {
			q, m := filled(t, n, names...), newModel(n)
			for _, k := range names {
				m.Push(k)
			}
			for _, k := range gone {
				play(t, "P8.4", q, step{remove(k), "0"}, step{remove(k), "83"})
				m.Remove(k)
			}
			if got, want := whole(q, names...), whole(m, names...); got != want {
				t.Fatalf("P8.4: of %v without %v:\n%s\nwant\n%s", names, gone, got, want)
			}
			for _, k := range names {
				if !slices.Contains(gone, k) {
					orders(append(slices.Clip(gone), k))
				}
			}
		}
		orders(nil)
	}
}

// P8.4: Ahead of each of many things, behind many that were taken out.
func TestAheadOfMany(t *testing.T) {
	const many = 3000
	q, _ := New[int](many)
	for i := range many {
		q.Push(i)
	}
	var left []int
	for i := range many {
		if i%7 == 3 || i%5 == 0 {
			q.Remove(i)
		} else {
			left = append(left, i)
		}
	}
	for i, k := range left {
		if n, code := q.Ahead(k); n != i || code != api.OK {
			t.Fatalf("P8.4: Ahead(%d): %d, %d; want %d, 0", k, n, code, i)
		}
	}
}

// P8.5: All is in the order, and shows what was there when it was called.
func TestAll(t *testing.T) {
	q := fresh(t, 4)
	none := q.All()
	for _, k := range []string{"d", "b", "", "a"} {
		q.Push(k)
	}
	some := q.All()
	show := func(what string, s iter.Seq2[int, string], want string) {
		t.Helper()
		if got := tell(pairs(s)); got != want {
			t.Errorf("P8.5: %s: %s; want %s", what, got, want)
		}
	}
	want := "[(1 d)(2 b)(3 )(4 a)]"
	show("ahead of all things", none, "[]")
	show("as it is", some, want)
	show("once more", some, want)
	q.Pop()
	show("behind Pop", some, want)
	q.Push("new")
	show("behind Push", some, want)
	q.Remove("a")
	show("behind Remove of one near the end", some, want)
	q.Remove("b")
	show("behind Remove of the first", some, want)
	few := q.All()
	show("called anew", few, "[(3 )(5 new)]")
	q.Push("x")
	q.Push("y")
	q.Remove("new")
	show("called anew, behind Push and Remove", few, "[(3 )(5 new)]")
	for q.Len() > 0 {
		q.Pop()
	}
	show("called on an empty queue", q.All(), "[]")
	for _, k := range []string{"1", "2", "3", "4"} {
		q.Push(k)
	}
	show("when all are gone and others there", some, want)
	show("called anew, when all are gone and others there", few, "[(3 )(5 new)]")
	show("ahead of all things, at last", none, "[]")
}

// P8.5: left early, again, within itself, and step by step.
func TestAllLeftAndNested(t *testing.T) {
	q := filled(t, 3, "c", "a", "b")
	s := q.All()
	for n := range 4 {
		var told []pair
		for number, k := range s {
			if len(told) == n {
				break
			}
			told = append(told, pair{number, k})
		}
		if !slices.Equal(told, []pair{{1, "c"}, {2, "a"}, {3, "b"}}[:n]) {
			t.Errorf("P8.5: left behind %d: %v", n, told)
		}
	}
	asked := 0
	s(func(int, string) bool { asked++; return asked < 2 })
	if asked != 2 {
		t.Errorf("P8.5: left behind 2, and %d were told", asked)
	}
	var seen []int
	for x := range s {
		for y := range s {
			seen = append(seen, x*10+y)
		}
		for y := range q.All() {
			seen = append(seen, 100+y)
			break
		}
	}
	if !slices.Equal(seen, []int{11, 12, 13, 101, 21, 22, 23, 101, 31, 32, 33, 101}) {
		t.Errorf("P8.5: within itself: %v", seen)
	}
	one, leave := iter.Pull2(s)
	two, leaveToo := iter.Pull2(s)
	defer leaveToo()
	one()
	one()
	n, k, _ := one()
	m, l, _ := two()
	leave()
	if n != 3 || k != "b" || m != 1 || l != "c" {
		t.Errorf("P8.5: two at a time: %d %s, %d %s", n, k, m, l)
	}
	s(nil)
	fresh(t, 1).All()(nil)
}

// P8.5: while it is gone through the queue is changed; neither sees the other.
func TestAllWhileChanged(t *testing.T) {
	changes := []struct {
		name   string
		change func(q *Queue[string], k string)
		then   string
	}{
		{"Remove of it", func(q *Queue[string], k string) { q.Remove(k) }, "[]"},
		{"Remove of the last", func(q *Queue[string], k string) { q.Remove("d") }, "[(1 a)(2 b)(3 c)]"},
		{"Remove of the second", func(q *Queue[string], k string) { q.Remove("b") }, "[(1 a)(3 c)(4 d)]"},
		{"Pop", func(q *Queue[string], k string) { q.Pop() }, "[]"},
		{"Push", func(q *Queue[string], k string) { q.Push("new " + k) }, "[(1 a)(2 b)(3 c)(4 d)(5 new a)(6 new b)]"},
		{"Pop and Push", func(q *Queue[string], k string) { q.Pop(); q.Push("new " + k) }, "[(5 new a)(6 new b)(7 new c)(8 new d)]"},
		{"Remove and Push of it", func(q *Queue[string], k string) { q.Remove(k); q.Push(k) }, "[(5 a)(6 b)(7 c)(8 d)]"},
	}
	for _, x := range changes {
		q := filled(t, 6, "a", "b", "c", "d")
		s := q.All()
		var told []pair
		for n, k := range s {
			told = append(told, pair{n, k})
			x.change(q, k)
		}
		if got := tell(told); got != "[(1 a)(2 b)(3 c)(4 d)]" || tell(pairs(s)) != got {
			t.Errorf("P8.5: %s while All is gone through: %s", x.name, got)
		}
		if got := tell(pairs(q.All())); got != x.then {
			t.Errorf("P8.5: %s while All is gone through leaves %s; want %s", x.name, got, x.then)
		}
	}
}

// P8.6: two queues have nothing to do with each other.
func TestTwoQueues(t *testing.T) {
	a, b := fresh(t, 2), fresh(t, 1)
	play(t, "P8.6", a, step{push("x"), "1 0"}, step{push("y"), "2 0"})
	play(t, "P8.6", b, step{length(), "0"}, step{ahead("x"), "0 83"}, step{remove("x"), "83"}, step{pop(), `"" false`}, step{push("y"), "1 0"}, step{push("x"), "0 82"})
	play(t, "P8.6", a, step{push("z"), "0 82"}, step{pop(), `"x" true`}, step{push("z"), "3 0"})
	play(t, "P8.6", b, step{all(), "[(1 y)]"}, step{remove("y"), "0"}, step{push("x"), "2 0"})
	play(t, "P8.6", a, step{all(), "[(2 y)(3 z)]"}, step{ahead("x"), "0 83"}, step{front(), `"y" true`})
	play(t, "P8.6", b, step{all(), "[(2 x)]"}, step{length(), "1"})
}

// P8.6: Front, Ahead, Len and All change nothing, wherever the queue stands.
func TestLooksChangeNothing(t *testing.T) {
	for n := range 5 {
		q := filled(t, 4, []string{"a", "b", "c", "d"}[:n]...)
		for gone := range n + 1 {
			first := `"" false`
			if gone < n {
				first = strconv.Quote(string(rune('a'+gone))) + " true"
			}
			leaves(t, "P8.6", q, front(), first)
			leaves(t, "P8.6", q, length(), strconv.Itoa(n-gone))
			leaves(t, "P8.6", q, call{"All(), left early", func(d drive) string {
				for range d.All() {
					break
				}
				return ""
			}}, "")
			for i := gone; i < n; i++ {
				leaves(t, "P8.6", q, ahead(string(rune('a'+i))), strconv.Itoa(i-gone)+" 0")
			}
			q.Pop()
		}
		play(t, "P8.6", q, step{push("z"), strconv.Itoa(n+1) + " 0"})
	}
}

// Two things are the same, if == says so, of whatever type they are.
func TestThings(t *testing.T) {
	refs, _ := New[api.Ref](3)
	refs.Push(api.Ref{Run: 1, Node: 2})
	refs.Push(api.Ref{Run: 2, Node: 1})
	refs.Push(api.Ref{})
	_, there := refs.Push(api.Ref{Run: 2, Node: 1})
	n, code := refs.Ahead(api.Ref{Run: 2, Node: 1})
	if there != api.ErrQueueThere || n != 1 || code != api.OK || refs.Remove(api.Ref{Run: 1, Node: 1}) != api.ErrQueueNone {
		t.Errorf("things that are structs: %d, %d, %d", there, n, code)
	}
	if refs.Remove(api.Ref{Run: 1, Node: 2}) != api.OK {
		t.Error("P8.4: a thing that is a struct is not taken out")
	}
	if k, ok := refs.Pop(); !ok || k != (api.Ref{Run: 2, Node: 1}) {
		t.Errorf("P8.3: things that are structs: %v, %v", k, ok)
	}
	pointers, _ := New[*int](3)
	p, q := new(int), new(int)
	pointers.Push(p)
	pointers.Push(nil)
	if n, code := pointers.Push(q); n != 3 || code != api.OK || pointers.Remove(p) != api.OK {
		t.Errorf("P8.2: pointers to what is the same: %d, %d", n, code)
	}
	first, some := pointers.Pop()
	second, more := pointers.Pop()
	if first != nil || !some || second != q || !more {
		t.Errorf("P8.3: things that are pointers: %v %v, %v %v", first, some, second, more)
	}
	odd, _ := New[any](9)
	things := []any{nil, 1, int8(1), "1", 1.0, [2]int{1, 1}, struct{}{}, &n}
	for i, x := range things {
		if n, code := odd.Push(x); n != i+1 || code != api.OK {
			t.Errorf("P8.2: Push(%v): %d, %d", x, n, code)
		}
	}
	for i, x := range things {
		_, there := odd.Push(x)
		if n, code := odd.Ahead(x); there != api.ErrQueueThere || n != i || code != api.OK {
			t.Errorf("P8.4: Ahead(%v): %d, %d; pushed again %d", x, n, code, there)
		}
	}
	empty, _ := New[struct{}](2)
	empty.Push(struct{}{})
	if _, code := empty.Push(struct{}{}); code != api.ErrQueueThere || empty.Len() != 1 {
		t.Errorf("P8.2: things that have nothing: %d", code)
	}
}

// Things that are the same but are written otherwise: the one that was pushed is told.
func TestSameButOtherwise(t *testing.T) {
	below := math.Copysign(0, -1)
	q, _ := New[float64](2)
	q.Push(below)
	if _, code := q.Push(0); code != api.ErrQueueThere {
		t.Errorf("P8.2: Push(0), when -0 is there: %d; want 81", code)
	}
	if n, code := q.Ahead(0); n != 0 || code != api.OK {
		t.Errorf("P8.4: Ahead(0), when -0 is there: %d, %d", n, code)
	}
	if k, ok := q.Front(); !ok || !math.Signbit(k) {
		t.Errorf("P8.3: -0 was pushed, and %v is told", k)
	}
	if q.Remove(0) != api.OK || q.Len() != 0 {
		t.Error("P8.4: Remove(0), when -0 is there")
	}
	q.Push(0)
	for _, k := range q.All() {
		if math.Signbit(k) {
			t.Error("P8.5: 0 was pushed, and -0 is told")
		}
	}
}

// Nothing of a thing is kept that was popped or removed.
func TestNothingIsKept(t *testing.T) {
	type big struct{ room [1000]int }
	q, _ := New[*big](100)
	var weaks []weak.Pointer[big]
	held := func(i int) *big { return weaks[i].Value() }
	for range 60 {
		b := new(big)
		weaks = append(weaks, weak.Make(b))
		q.Push(b)
	}
	stays := held(30)
	for i := range 10 {
		q.Remove(held(59 - i))
		q.Remove(held(i + 31))
		q.Remove(held(i + 2))
	}
	for range 12 {
		q.Pop()
	}
	for i := range weaks {
		if i != 30 && held(i) != nil {
			q.Remove(held(i))
		}
	}
	runtime.GC()
	runtime.GC()
	for i, p := range weaks {
		if i != 30 && p.Value() != nil {
			t.Fatalf("thing %d is still kept", i+1)
		}
	}
	if k, ok := q.Pop(); k != stays || !ok || q.Len() != 0 {
		t.Errorf("P8.4: the one that is left: %v, %v, then %d", k == stays, ok, q.Len())
	}
	runtime.KeepAlive(q)
}
