package pack

import (
	"bytes"
	"math"
	"slices"
	"strings"
	"sync"
	"testing"

	"escapement/api"
)

// P2.1: how many bytes a writer takes.
func TestWritersTakeSoMany(t *testing.T) {
	for _, most := range []int{0, -1, -5, math.MinInt} {
		if b, e := NewWriter(most).Done(); len(b) != 0 || e != api.OK {
			t.Errorf("a writer of %d, at once: %x, %d", most, b, e)
		}
		w := NewWriter(most)
		Flags().Put(w, true)
		if b, e := w.Done(); len(b) != 0 || e != api.ErrPackLong {
			t.Errorf("a writer of %d took a byte: %x, %d", most, b, e)
		}
	}
	blob := make([]byte, api.MaxLen-4) // its number has four bytes
	for _, most := range []int{api.MaxLen, api.MaxLen + 1, math.MaxInt} {
		if b, e := Bytes(Blobs(math.MaxInt), blob, most); len(b) != api.MaxLen || e != api.OK {
			t.Errorf("MaxLen bytes within %d: %d, %d", most, len(b), e)
		}
		if b, e := Bytes(Blobs(math.MaxInt), append(blob, 0), most); len(b) != 0 || e != api.ErrPackLong {
			t.Errorf("MaxLen bytes and one within %d: %d, %d", most, len(b), e)
		}
	}
	if b, e := Bytes(Blobs(math.MaxInt), blob, api.MaxLen-1); len(b) != 0 || e != api.ErrPackLong {
		t.Errorf("MaxLen bytes within one less: %d, %d", len(b), e)
	}
}

// What was laid ahead takes its part of the room.
func TestWritersHaveRoomForTheRest(t *testing.T) {
	for most := range 8 {
		w := NewWriter(most)
		Texts(9).Put(w, "ab")
		Numbers(0, 999).Put(w, 300)
		Flags().Put(w, true)
		want, code := "\x02ab\xac\x02\x01", api.OK
		if most < len(want) {
			want, code = "", api.ErrPackLong
		}
		if b, e := w.Done(); string(b) != want || e != code {
			t.Errorf("within %d: %x, %d", most, b, e)
		}
	}
}

// Done may be asked again, and what is put behind it follows.
func TestWritersGoOnBehindDone(t *testing.T) {
	w := NewWriter(9)
	for n := range 3 {
		Numbers(0, 9).Put(w, n)
		for range 2 {
			if b, e := w.Done(); string(b) != "\x00\x01\x02"[:n+1] || e != api.OK {
				t.Errorf("behind %d: %x, %d", n, b, e)
			}
		}
	}
}

// The first fault stays, and nothing is laid behind it.
func TestWritersKeepTheFirstFault(t *testing.T) {
	first := map[api.Errno]func(w *Writer){
		api.ErrPackLong: func(w *Writer) { Texts(1).Put(w, "ab") },
		api.ErrPackForm: func(w *Writer) { Numbers(5, 9).Put(w, 4) },
	}
	for code, fault := range first {
		w := NewWriter(5)
		Flags().Put(w, true)
		fault(w)
		for _, later := range []func(){
			w.Fail,
			func() { Flags().Put(w, true) },
			func() { Numbers(5, 9).Put(w, 4) },
			func() { Words().Put(w, 1) },
			func() { Blobs(0).Put(w, []byte{1}) },
			func() { Lists(Flags(), 0).Put(w, []bool{true}) },
			func() { Form[int]{}.Put(w, 1) },
		} {
			later()
			if b, e := w.Done(); len(b) != 0 || e != code {
				t.Errorf("behind the fault %d: %x, %d", code, b, e)
			}
		}
	}
	w := NewWriter(5)
	w.Fail()
	Words().Put(w, 1)
	if b, e := w.Done(); len(b) != 0 || e != api.ErrPackForm {
		t.Error(b, e)
	}
}

// A primitive value that does not fit is a fault, though a shorter one would.
func TestWritersLayWhole(t *testing.T) {
	w := NewWriter(3)
	Texts(9).Put(w, "abc")
	Flags().Put(w, true)
	if b, e := w.Done(); len(b) != 0 || e != api.ErrPackLong {
		t.Error(b, e)
	}
	if len(w.laid) != 0 {
		t.Errorf("a part was laid: %x", w.laid)
	}
}

// P2.2: the bytes that a reader has.
func TestReadersOfMaxLen(t *testing.T) {
	r := NewReader(make([]byte, api.MaxLen))
	if r.Err() != api.OK || r.End() != api.ErrPackRest || r.At() != 0 {
		t.Error(r.Err(), r.End(), r.At())
	}
	r = NewReader(make([]byte, api.MaxLen+1))
	r.Fail()
	if Flags().Take(r) || r.Err() != api.ErrPackLong || r.End() != api.ErrPackLong || r.At() != 0 {
		t.Error(r.Err(), r.End(), r.At())
	}
	if x, e := Read(Numbers(0, 9), make([]byte, api.MaxLen+1)); x != 0 || e != api.ErrPackLong {
		t.Error(x, e)
	}
}

func TestReadersTell(t *testing.T) {
	for _, b := range [][]byte{nil, {}} {
		if r := NewReader(b); r.At() != 0 || r.Err() != api.OK || r.End() != api.OK {
			t.Error(r.At(), r.Err(), r.End())
		}
	}
	r := NewReader([]byte("\x05\x01a\x01"))
	for range 2 { // asking changes nothing
		if r.At() != 0 || r.Err() != api.OK || r.End() != api.ErrPackRest {
			t.Error(r.At(), r.Err(), r.End())
		}
	}
	if n := Numbers(0, 9).Take(r); n != 5 || r.At() != 1 || r.Err() != api.OK || r.End() != api.ErrPackRest {
		t.Error(n, r.At(), r.Err(), r.End())
	}
	if s := Texts(9).Take(r); s != "a" || r.At() != 3 || r.End() != api.ErrPackRest {
		t.Error(s, r.At(), r.End())
	}
	if x := Flags().Take(r); !x || r.At() != 4 || r.Err() != api.OK || r.End() != api.OK {
		t.Error(x, r.At(), r.Err(), r.End())
	}
	if x := Flags().Take(r); x || r.At() != 4 || r.Err() != api.ErrPackShort || r.End() != api.ErrPackShort {
		t.Error(x, r.At(), r.Err(), r.End())
	}
}

// A primitive value that is refused takes nothing; behind its fault, which
// stays, every form takes nothing and answers its zero value.
func TestReadersKeepTheFirstFault(t *testing.T) {
	tail := "\x01\x01\x01\x01\x01\x01\x01\x01"
	for _, c := range []struct {
		name  string
		bytes string
		take  func(r *Reader)
		fault api.Errno
	}{
		{"Numbers, out of bounds", "\x0a" + tail, func(r *Reader) { Numbers(0, 9).Take(r) }, api.ErrPackForm},
		{"Numbers, a last 0", "\x81\x00" + tail, func(r *Reader) { Numbers(0, 9).Take(r) }, api.ErrPackForm},
		{"Numbers, short", "\x81", func(r *Reader) { Numbers(0, 9).Take(r) }, api.ErrPackShort},
		{"Words", "\x01\x01\x01\x01", func(r *Reader) { Words().Take(r) }, api.ErrPackShort},
		{"Flags", "\x02" + tail, func(r *Reader) { Flags().Take(r) }, api.ErrPackForm},
		{"Texts, long", "\x01a" + tail, func(r *Reader) { Texts(0).Take(r) }, api.ErrPackLong},
		{"Texts, short", "\x09" + tail, func(r *Reader) { Texts(9).Take(r) }, api.ErrPackShort},
		{"Blobs, long", "\x01a" + tail, func(r *Reader) { Blobs(0).Take(r) }, api.ErrPackLong},
		{"Blobs, short", "\x09" + tail, func(r *Reader) { Blobs(9).Take(r) }, api.ErrPackShort},
		{"Lists, long", "\x01a" + tail, func(r *Reader) { Lists(Flags(), 0).Take(r) }, api.ErrPackLong},
		{"Lists, short", "\x09" + tail, func(r *Reader) { Lists(Flags(), 9).Take(r) }, api.ErrPackShort},
		{"Fail", tail, func(r *Reader) { r.Fail() }, api.ErrPackForm},
		{"the zero form", tail, func(r *Reader) { Form[int]{}.Take(r) }, api.ErrPackForm},
	} {
		r := NewReader([]byte("\x01" + c.bytes))
		Flags().Take(r)
		c.take(r)
		r.Fail()
		n, w, f, s := Numbers(0, 9).Take(r), Words().Take(r), Flags().Take(r), Texts(9).Take(r)
		b, l, z := Blobs(9).Take(r), Lists(Flags(), 9).Take(r), Form[int]{}.Take(r)
		if n != 0 || w != 0 || f || s != "" || len(b) != 0 || len(l) != 0 || z != 0 {
			t.Errorf("%s: behind the fault: %v %v %v %q %v %v %v", c.name, n, w, f, s, b, l, z)
		}
		if r.At() != 1 || r.Err() != c.fault || r.End() != c.fault {
			t.Errorf("%s: at %d, %d, %d", c.name, r.At(), r.Err(), r.End())
		}
	}
}

// P2.5: how often the functions of one's own form are called, and with what.
func TestMakeCallsOnce(t *testing.T) {
	var puts []int
	takes := 0
	var with *Writer
	var off *Reader
	f := Make(func(w *Writer, x int) { puts = append(puts, x); with = w; Numbers(0, 99).Put(w, x) },
		func(r *Reader) int { takes++; off = r; return 10 * Numbers(0, 99).Take(r) })
	w, r := NewWriter(9), NewReader([]byte{7, 100, 1})
	f.Put(w, 7)
	if b, e := w.Done(); string(b) != "\x07" || e != api.OK || !slices.Equal(puts, []int{7}) || with != w {
		t.Error(b, e, puts)
	}
	if x := f.Take(r); x != 70 || takes != 1 || off != r || r.At() != 1 {
		t.Error(x, takes, r.At())
	}
	f.Put(w, 100) // its own fault
	if x := f.Take(r); x != 0 || takes != 2 || r.At() != 1 || r.Err() != api.ErrPackForm {
		t.Error(x, takes, r.At(), r.Err())
	}
	f.Put(w, 8) // behind a fault
	if x := f.Take(r); x != 0 || takes != 2 || r.At() != 1 || !slices.Equal(puts, []int{7, 100}) {
		t.Error(x, takes, r.At(), puts)
	}
	f.Put(nil, 9)
	if x := f.Take(nil); x != 0 || takes != 2 || len(puts) != 2 {
		t.Error(x, takes, puts)
	}
}

// A function of one's own is left by nothing that is refused within it: what
// it does behind that is its business.
func TestMakeGoesOnWithin(t *testing.T) {
	var seen []string
	f := Make(func(w *Writer, x string) {
		Texts(1).Put(w, x)
		seen = append(seen, "put "+x)
		Flags().Put(w, true)
	}, func(r *Reader) string {
		x := Texts(1).Take(r)
		seen = append(seen, "take "+x)
		Lists(Flags(), 1).Take(r)
		seen = append(seen, "list")
		return "never told"
	})
	lays(t, f, "abc", 99, "", api.ErrPackLong)
	refuses(t, f, "\x03abc", api.ErrPackLong)
	refuses(t, f, "\x01a\x01\x02", api.ErrPackForm)
	if want := "put abc, take , list, take a, list"; strings.Join(seen, ", ") != want {
		t.Error(seen)
	}
}

// What take answers is not told where the reader has a fault then, whoever
// left it there.
func TestMakeAnswersNothingBesideAFault(t *testing.T) {
	for name, fault := range map[string]func(r *Reader){
		"its own":  func(r *Reader) { r.Fail() },
		"a part's": func(r *Reader) { Words().Take(r) },
	} {
		f := Make(func(*Writer, []int) {}, func(r *Reader) []int { Flags().Take(r); fault(r); return []int{7} })
		r := NewReader([]byte{1, 1})
		if x := f.Take(r); len(x) != 0 || r.At() != 1 || r.Err() == api.OK {
			t.Errorf("%s: %v, at %d, %d", name, x, r.At(), r.Err())
		}
	}
}

// A form of one's own may lay and take nothing, where no list asks for a byte.
func TestMakeWithoutBytes(t *testing.T) {
	f := Make(func(*Writer, int) {}, func(*Reader) int { return 4 })
	lays(t, f, 4, 0, "", api.OK)
	if x, e := Read(f, nil); x != 4 || e != api.OK {
		t.Error(x, e)
	}
	refuses(t, f, "\x00", api.ErrPackRest)
}

// The zero Form, and those of nil functions.
func TestMakeOfNothing(t *testing.T) {
	calls := 0
	put := func(w *Writer, x int) { calls++; Numbers(0, 9).Put(w, x) }
	take := func(r *Reader) int { calls++; return Numbers(0, 9).Take(r) }
	for name, f := range map[string]Form[int]{"zero": {}, "no put": Make(nil, take), "no take": Make(put, nil), "neither": Make[int](nil, nil)} {
		lays(t, f, 1, 99, "", api.ErrPackForm)
		refuses(t, f, "\x01", api.ErrPackForm)
		refuses(t, f, "", api.ErrPackForm)
		lays(t, Lists(f, 9), []int{1}, 99, "", api.ErrPackForm)
		refuses(t, Lists(f, 9), "\x01\x01", api.ErrPackForm)
		lays(t, Lists(f, 9), nil, 99, "\x00", api.OK)
		f.Put(nil, 1)
		r := NewReader([]byte{1})
		if x := f.Take(r); x != 0 || r.At() != 0 || r.Err() != api.ErrPackForm || f.Take(nil) != 0 {
			t.Errorf("%s: %d, at %d, %d", name, x, r.At(), r.Err())
		}
	}
	if calls != 0 {
		t.Error("half a form was called")
	}
}

// Nil writers and readers, of each form that is given.
func TestNilWritersAndReaders(t *testing.T) {
	Numbers(5, 4).Put(nil, 1)
	Words().Put(nil, 1)
	Flags().Put(nil, true)
	Texts(-1).Put(nil, "a")
	Blobs(9).Put(nil, []byte{1})
	Lists(Flags(), 9).Put(nil, []bool{true})
	n, w, f, s := Numbers(5, 9).Take(nil), Words().Take(nil), Flags().Take(nil), Texts(9).Take(nil)
	b, l := Blobs(9).Take(nil), Lists(Flags(), 9).Take(nil)
	if n != 0 || w != 0 || f || s != "" || len(b) != 0 || len(l) != 0 {
		t.Error(n, w, f, s, b, l)
	}
}

// A panic that is not the reader's own is not taken for a fault.
func TestForeignPanicGoesOn(t *testing.T) {
	defer func() {
		if why := recover(); why != "not mine" {
			t.Error(why)
		}
	}()
	Lists(Make(func(*Writer, int) {}, func(*Reader) int { panic("not mine") }), 9).Take(NewReader([]byte{1, 1}))
	t.Error("it was swallowed")
}

// P2.6: at one stroke is what the calls are one by one.
func TestAtOneStroke(t *testing.T) {
	f := Lists(Texts(3), 3)
	for _, x := range [][]string{nil, {"a"}, {"a", "bcd"}, {"abcd"}, {"", "", "", ""}} {
		for most := -1; most < 9; most++ {
			w := NewWriter(most)
			f.Put(w, x)
			want, code := w.Done()
			lays(t, f, x, most, string(want), code)
		}
	}
	for _, b := range []string{"", "\x00", "\x01\x01a", "\x01\x01a\x00", "\x01\x04abcd", "\x02\x01a"} {
		r := NewReader([]byte(b))
		want := f.Take(r)
		code := r.End()
		if code != api.OK {
			want = nil
		}
		if x, e := Read(f, []byte(b)); told(x) != told(want) || e != code {
			t.Errorf("Read of %x: %v, %d", b, x, e)
		}
	}
	if x, e := Read(Numbers(0, 9), []byte{7, 0}); x != 0 || e != api.ErrPackRest {
		t.Error("a value beside ErrPackRest:", x, e)
	}
}

// P2.7: what is handed in is neither changed nor kept.
func TestHandedIn(t *testing.T) {
	room := []byte{1, 2, 3, 4, 5, 6}
	w := NewWriter(99)
	Blobs(9).Put(w, room[:3])
	things := []int{1, 2, 3, 4}
	Lists(Numbers(0, 9), 9).Put(w, things[:2])
	if !bytes.Equal(room, []byte{1, 2, 3, 4, 5, 6}) || !slices.Equal(things, []int{1, 2, 3, 4}) {
		t.Error("Put changed what was handed in:", room, things)
	}
	clear(room)
	clear(things)
	if b, e := w.Done(); string(b) != "\x03\x01\x02\x03\x02\x01\x02" || e != api.OK {
		t.Error("the writer kept what was handed in:", b, e)
	}

	raw := []byte{2, 1, 0, 9, 9}
	r := NewReader(raw[:3])
	raw[0], raw[1], raw[2] = 1, 9, 9
	if l := Lists(Flags(), 9).Take(r); !slices.Equal(l, []bool{true, false}) || r.End() != api.OK {
		t.Error("the reader kept what was handed in:", l, r.End())
	}
	raw = []byte{3, 1, 2, 3, 8}
	blob, _ := Read(Blobs(9), raw[:4])
	clear(blob[:cap(blob)])
	if !bytes.Equal(raw, []byte{3, 1, 2, 3, 8}) {
		t.Error("what was read shares memory with the bytes:", raw)
	}
}

// What comes out is new memory, its spare room too.
func TestHandedOut(t *testing.T) {
	w := NewWriter(99)
	Texts(9).Put(w, "abc")
	first, _ := w.Done()
	second, _ := w.Done()
	fill(first)
	if string(second) != "\x03abc" {
		t.Error("two answers of Done share memory:", second)
	}
	Flags().Put(w, true)
	fill(second)
	if b, e := w.Done(); string(b) != "\x03abc\x01" || e != api.OK {
		t.Error("Done shares memory with the writer:", b, e)
	}

	r := NewReader([]byte("\x02ab\x00\x02\x02cd\x01e\x02fg"))
	fill(Blobs(9).Take(r))
	fill(Blobs(9).Take(r))
	list := Lists(Blobs(9), 9).Take(r)
	if told(list) != told([][]byte{[]byte("cd"), []byte("e")}) {
		t.Fatal("a blob shares memory with the reader:", list)
	}
	fill(list[0])
	if string(list[1]) != "e" {
		t.Error("two blobs share memory:", list)
	}
	if b := Blobs(9).Take(r); string(b) != "fg" || r.End() != api.OK {
		t.Error("a blob shares memory with the reader:", b, r.End())
	}
}

func fill(b []byte) {
	b = b[:cap(b)]
	for i := range b {
		b[i] = 0xee
	}
}

// Writers have nothing to do with one another, readers neither, and one form
// serves all of them at once.
func TestFormsServeMany(t *testing.T) {
	f := Lists(Lists(Numbers(0, 999), 9), 9)
	x := [][]int{{1, 300}, nil, {7}}
	var wait sync.WaitGroup
	for n := range 16 {
		wait.Go(func() {
			w, bad := NewWriter(99), NewWriter(n%8)
			for range 50 {
				f.Put(bad, x)
				if b, e := Bytes(f, x, 99); string(b) != "\x03\x02\x01\xac\x02\x00\x01\x07" || e != api.OK {
					t.Error(b, e)
				}
				if y, e := Read(f, []byte("\x03\x02\x01\xac\x02\x00\x01\x07")); told(y) != told(x) || e != api.OK {
					t.Error(y, e)
				}
				refuses(t, f, "\x01\x01\x80", api.ErrPackShort)
			}
			if _, e := bad.Done(); e != api.ErrPackLong {
				t.Error(e)
			}
			if b, e := w.Done(); len(b) != 0 || e != api.OK {
				t.Error(b, e)
			}
		})
	}
	wait.Wait()
}

// tree is a value whose form calls itself.
type tree struct{ leaves []tree }

func trees() Form[tree] {
	var f Form[tree]
	put := func(w *Writer, x tree) { Lists(f, 9).Put(w, x.leaves) }
	take := func(r *Reader) tree { return tree{Lists(f, 9).Take(r)} }
	f = Make(put, take)
	return f
}

// As many parts nested in one another as the bound allows, whole and refused
// at the very bottom.
func TestFormsNestDeep(t *testing.T) {
	const depth = 1 << 16
	var x tree
	for range depth {
		x = tree{[]tree{x}}
	}
	want := strings.Repeat("\x01", depth) + "\x00"
	b, e := Bytes(trees(), x, api.MaxLen)
	if string(b) != want || e != api.OK {
		t.Fatal(len(b), e)
	}
	y, e := Read(trees(), b)
	if e != api.OK {
		t.Fatal(e)
	}
	n := 0
	for ; len(y.leaves) == 1; n++ {
		y = y.leaves[0]
	}
	if n != depth || len(y.leaves) != 0 {
		t.Error(n, len(y.leaves))
	}
	r := NewReader([]byte(want[:depth] + "\x80"))
	if y := trees().Take(r); len(y.leaves) != 0 || r.At() != depth || r.Err() != api.ErrPackShort {
		t.Error(len(y.leaves), r.At(), r.Err())
	}
	if b, e := Bytes(trees(), x, depth); len(b) != 0 || e != api.ErrPackLong {
		t.Error(len(b), e)
	}
}

// P2.8, P2.9, P2.10 and P2.11, of all the forms of the model.
func TestBack(t *testing.T) {
	for _, f := range allForms() {
		f.back(t)
	}
}

func TestOneForm(t *testing.T) {
	rows := allBytes()
	for _, f := range allForms() {
		for _, b := range rows {
			f.one(t, b)
		}
	}
}

func TestAlone(t *testing.T) {
	for _, f := range allForms() {
		f.lone(t)
	}
}

func TestInParts(t *testing.T) {
	forms := slices.DeleteFunc(allForms(), func(f checks) bool { return f.some == nil })
	chance := chance()
	for range 2000 {
		whole := NewWriter(api.MaxLen)
		var parts []byte
		var takes []func(*Reader) bool
		for range chance.Intn(12) {
			put, take := forms[chance.Intn(len(forms))].some(chance)
			alone := NewWriter(api.MaxLen)
			put(alone)
			put(whole)
			b, _ := alone.Done()
			parts = append(parts, b...)
			takes = append(takes, take)
		}
		all, e := whole.Done()
		if !bytes.Equal(all, parts) || e != api.OK {
			t.Fatalf("in one writer %x, one by one %x, %d", all, parts, e)
		}
		r := NewReader(all)
		for i, take := range takes {
			if !take(r) {
				t.Fatalf("value %d off %x does not come back", i, all)
			}
		}
		if e := r.End(); e != api.OK {
			t.Fatalf("behind all values off %x: %d", all, e)
		}
	}
}
