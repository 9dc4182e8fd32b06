package pack

import (
	"slices"
	"strings"
	"testing"

	"escapement/api"
)

func lays[T any](t *testing.T, f Form[T], x T, most int, want string, code api.Errno) {
	t.Helper()
	if b, e := Bytes(f, x, most); string(b) != want || e != code {
		t.Errorf("Bytes of %v within %d: %x, %d; want %x, %d", x, most, b, e, want, code)
	}
}

func refuses[T any](t *testing.T, f Form[T], b string, code api.Errno) {
	t.Helper()
	var zero T
	if x, e := Read(f, []byte(b)); e != code || told(x) != told(zero) {
		t.Errorf("Read of %x: %v, %d; want %d", b, x, e, code)
	}
}

// The chapter's examples.
func TestExamples(t *testing.T) {
	n := Numbers(0, 1000)
	lays(t, n, 0, 9, "\x00", api.OK)
	lays(t, n, 127, 9, "\x7f", api.OK)
	lays(t, n, 128, 9, "\x80\x01", api.OK)
	lays(t, n, 300, 9, "\xac\x02", api.OK)
	lays(t, Numbers(0, far), far, 9, strings.Repeat("\xff", 8)+"\x7f", api.OK)
	lays(t, Numbers(0, far), far, 8, "", api.ErrPackLong)
	lays(t, Numbers(5, 9), 4, 99, "", api.ErrPackForm)
	lays(t, Numbers(-3, 9), -1, 99, "", api.ErrPackForm)
	lays(t, Numbers(9, 5), 7, 99, "", api.ErrPackForm)
	refuses(t, n, "\x80", api.ErrPackShort)
	refuses(t, n, "\x80\x00", api.ErrPackForm)
	refuses(t, n, "\xac\x02\x00", api.ErrPackRest)
	refuses(t, n, "\xe9\x07", api.ErrPackForm)
	refuses(t, Numbers(0, far), strings.Repeat("\xff", 9), api.ErrPackForm)
	refuses(t, Numbers(0, far), strings.Repeat("\xff", 8), api.ErrPackShort)
	lays(t, Words(), 258, 8, "\x02\x01\x00\x00\x00\x00\x00\x00", api.OK)
	lays(t, Flags(), true, 1, "\x01", api.OK)
	refuses(t, Flags(), "\x02", api.ErrPackForm)
	refuses(t, Flags(), "", api.ErrPackShort)
	lays(t, Texts(2), "ab", 3, "\x02ab", api.OK)
	lays(t, Texts(1), "ab", 3, "", api.ErrPackLong)
	lays(t, Texts(2), "ab", 2, "", api.ErrPackLong)
	refuses(t, Texts(2), "\x03abc", api.ErrPackLong)
	refuses(t, Texts(3), "\x03ab", api.ErrPackShort)
	refuses(t, Texts(-1), "\x00", api.ErrPackLong)
	l := Lists(Numbers(0, 9), 3)
	lays(t, l, []int{1, 2}, 99, "\x02\x01\x02", api.OK)
	lays(t, l, nil, 99, "\x00", api.OK)
	lays(t, l, []int{1, 10}, 99, "", api.ErrPackForm)
	refuses(t, l, "\x04\x01\x01\x01\x01", api.ErrPackLong)
	refuses(t, l, "\x03\x01\x01", api.ErrPackShort)
	refuses(t, l, "\x02\x01\x0a", api.ErrPackForm)
}

// P2.3 and P2.4, and P2.1's room: every form at every value, and at every row
// of bytes, against the model.
func TestFormsPutAsTheModel(t *testing.T) {
	for _, f := range allForms() {
		f.lays(t)
	}
}

func TestFormsTakeAsTheModel(t *testing.T) {
	rows := allBytes()
	for _, f := range allForms() {
		for _, b := range rows {
			f.take(t, b)
		}
	}
}

// The number's two faults where nine bytes are left or not, and what stands
// behind a number does not matter to it.
func TestNumbersOfNineBytes(t *testing.T) {
	all := Numbers(0, far)
	high := strings.Repeat("\x80", 8)
	for _, c := range []struct {
		bytes string
		want  int
		at    int
		fault api.Errno
	}{
		{high + "\x01", 1 << 56, 9, api.OK},
		{high + "\x7f", 127 << 56, 9, api.OK},
		{high + "\x7f\xff", 127 << 56, 9, api.OK},
		{high + "\x00", 0, 0, api.ErrPackForm},
		{high + "\x80", 0, 0, api.ErrPackForm},
		{high + "\x80\x01", 0, 0, api.ErrPackForm},
		{high, 0, 0, api.ErrPackShort},
		{"\xff\x00\x01", 0, 0, api.ErrPackForm},
		{"\x00\x80", 0, 1, api.OK},
	} {
		r := NewReader([]byte(c.bytes))
		if n := all.Take(r); n != c.want || r.At() != c.at || r.Err() != c.fault {
			t.Errorf("%x: %d, at %d, %d", c.bytes, n, r.At(), r.Err())
		}
	}
}

// MaxLen holds for the number of things, ahead of the bytes.
func TestListsOfTooManyThings(t *testing.T) {
	calls := 0
	fails := Make(func(w *Writer, x struct{}) { calls++; w.Fail() }, func(r *Reader) struct{} { calls++; r.Fail(); return struct{}{} })
	f := Lists(fails, far)
	lays(t, f, make([]struct{}, api.MaxLen+1), far, "", api.ErrPackLong)
	if calls != 0 {
		t.Error("a list that is too long is put thing by thing")
	}
	lays(t, f, make([]struct{}, api.MaxLen), far, "", api.ErrPackForm)
	if calls != 1 {
		t.Errorf("one was called %d times, behind a fault too", calls)
	}
	most, _ := Bytes(Numbers(0, far), api.MaxLen, 9)
	over, _ := Bytes(Numbers(0, far), api.MaxLen+1, 9)
	refuses(t, f, string(most), api.ErrPackShort)
	refuses(t, f, string(over), api.ErrPackLong)
	refuses(t, Lists(fails, api.MaxLen-1), string(most), api.ErrPackLong)
	if calls != 1 {
		t.Error("a list whose number is refused is taken thing by thing")
	}
}

// A great number at a list's head does not make a great list ahead of its things.
func TestListsOfALie(t *testing.T) {
	type wide struct{ room [1 << 20]byte }
	calls := 0
	f := Lists(Make(func(*Writer, wide) {}, func(r *Reader) wide { calls++; Flags().Take(r); return wide{} }), far)
	head, _ := Bytes(Numbers(0, far), 1<<23, 9)
	b := append(head, slices.Repeat([]byte{7}, 1<<23)...)
	r := NewReader(b)
	if l := f.Take(r); len(l) != 0 || r.Err() != api.ErrPackForm || r.At() != len(head) || calls != 1 {
		t.Error(len(l), r.Err(), r.At(), calls)
	}
}

// Where a list ends at a fault, what was taken of it stays taken; where its
// number is refused nothing is.
func TestListsStayTaken(t *testing.T) {
	for _, c := range []struct {
		bytes string
		at    int
		fault api.Errno
	}{
		{"\x02\x01\x0a", 2, api.ErrPackForm},
		{"\x02\x0a\x01", 1, api.ErrPackForm},
		{"\x01\x80", 1, api.ErrPackShort},
		{"\x02\x01\x80", 2, api.ErrPackShort},
		{"\x03\x01\x01", 0, api.ErrPackShort},
		{"\x04\x01\x01\x01\x01", 0, api.ErrPackLong},
		{"\x04", 0, api.ErrPackLong},
		{"\x80\x00", 0, api.ErrPackForm},
		{"", 0, api.ErrPackShort},
	} {
		r := NewReader([]byte(c.bytes))
		if l := Lists(Numbers(0, 9), 3).Take(r); len(l) != 0 || r.At() != c.at || r.Err() != c.fault {
			t.Errorf("%x: %v, at %d, %d", c.bytes, l, r.At(), r.Err())
		}
	}
}

// A thing that has no byte may stand in no list; but an empty list has no thing.
func TestListsOfThingsWithoutBytes(t *testing.T) {
	puts, takes := 0, 0
	f := Lists(Make(func(*Writer, int) { puts++ }, func(*Reader) int { takes++; return 1 }), 9)
	lays(t, f, nil, 99, "\x00", api.OK)
	if l, e := Read(f, []byte{0}); len(l) != 0 || e != api.OK {
		t.Error(l, e)
	}
	lays(t, f, []int{5, 6}, 99, "", api.ErrPackForm)
	r := NewReader([]byte{2, 0, 0})
	if l := f.Take(r); len(l) != 0 || r.At() != 1 || r.Err() != api.ErrPackForm {
		t.Error(l, r.At(), r.Err())
	}
	if puts != 1 || takes != 1 {
		t.Error("it goes on behind the fault:", puts, takes)
	}
}

// One thing without bytes behind another that has some is no less a fault; and
// a thing's own fault is not taken for that one.
func TestListsOfSomeThingsWithoutBytes(t *testing.T) {
	put := func(w *Writer, x int) {
		if x > 0 {
			Numbers(1, 9).Put(w, x)
		}
	}
	takes := 0
	take := func(r *Reader) int {
		takes++
		if takes == 2 {
			return 7
		}
		return Numbers(1, 9).Take(r)
	}
	f := Lists(Make(put, take), 9)
	lays(t, f, []int{1, 2}, 99, "\x02\x01\x02", api.OK)
	lays(t, f, []int{1, 0}, 99, "", api.ErrPackForm)
	r := NewReader([]byte{2, 1, 1})
	if l := f.Take(r); len(l) != 0 || r.At() != 2 || r.Err() != api.ErrPackForm {
		t.Error(l, r.At(), r.Err())
	}
	lays(t, Lists(Texts(1), 9), []string{"ab"}, 99, "", api.ErrPackLong)
	refuses(t, Lists(Texts(1), 9), "\x01\x02ab", api.ErrPackLong)
}

// A thing that is put elsewhere, or taken off another reader, has no byte here.
func TestListsOfThingsElsewhere(t *testing.T) {
	other, source := NewWriter(99), NewReader([]byte{1, 1, 1})
	f := Lists(Make(func(_ *Writer, x bool) { Flags().Put(other, x) }, func(*Reader) bool { return Flags().Take(source) }), 9)
	lays(t, f, []bool{true}, 99, "", api.ErrPackForm)
	refuses(t, f, "\x01\x01", api.ErrPackForm)
	if b, e := other.Done(); string(b) != "\x01" || e != api.OK || source.At() != 1 || source.Err() != api.OK {
		t.Error(b, e, source.At(), source.Err())
	}
}
