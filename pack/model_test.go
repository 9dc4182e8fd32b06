package pack

import (
	"encoding/binary"
	"fmt"
	"math/big"
	"math/rand"
	"slices"
	"testing"

	"escapement/api"
)

// far is the greatest number.
const far = 1<<63 - 1

func chance() *rand.Rand { return rand.New(rand.NewSource(1)) }

// model is a form in the chapter's words, on its own: lays gives the bytes of a
// value, or the fault; takes gives the value at the beginning of b, how many
// bytes stay taken, and the fault. It knows no writer and no reader.
type model[T any] struct {
	lays  func(x T) ([]byte, api.Errno)
	takes func(b []byte) (T, int, api.Errno)
}

func modelNumbers(least, most int) model[int] {
	lays := func(x int) ([]byte, api.Errno) {
		if x < least || x < 0 || x > most {
			return nil, api.ErrPackForm
		}
		return binary.AppendUvarint(nil, uint64(x)), api.OK
	}
	takes := func(b []byte) (int, int, api.Errno) {
		end := slices.IndexFunc(b, func(x byte) bool { return x < 0x80 })
		if end < 0 && len(b) < 9 {
			return 0, 0, api.ErrPackShort
		}
		if end < 0 || end > 8 || end > 0 && b[end] == 0 {
			return 0, 0, api.ErrPackForm
		}
		n := new(big.Int)
		for i := end; i >= 0; i-- {
			n.Lsh(n, 7)
			n.Add(n, big.NewInt(int64(b[i]&0x7f)))
		}
		if n.Cmp(big.NewInt(int64(least))) < 0 || n.Cmp(big.NewInt(int64(most))) > 0 {
			return 0, 0, api.ErrPackForm
		}
		return int(n.Int64()), end + 1, api.OK
	}
	return model[int]{lays, takes}
}

func modelWords() model[uint64] {
	lays := func(x uint64) ([]byte, api.Errno) { return binary.LittleEndian.AppendUint64(nil, x), api.OK }
	takes := func(b []byte) (uint64, int, api.Errno) {
		if len(b) < 8 {
			return 0, 0, api.ErrPackShort
		}
		return binary.LittleEndian.Uint64(b), 8, api.OK
	}
	return model[uint64]{lays, takes}
}

func modelFlags() model[bool] {
	lays := func(x bool) ([]byte, api.Errno) {
		return map[bool][]byte{false: {0}, true: {1}}[x], api.OK
	}
	takes := func(b []byte) (bool, int, api.Errno) {
		if len(b) == 0 {
			return false, 0, api.ErrPackShort
		}
		if b[0] > 1 {
			return false, 0, api.ErrPackForm
		}
		return b[0] == 1, 1, api.OK
	}
	return model[bool]{lays, takes}
}

func modelRows[B string | []byte](most int) model[B] {
	var none B
	lays := func(x B) ([]byte, api.Errno) {
		if len(x) > most {
			return nil, api.ErrPackLong
		}
		return append(binary.AppendUvarint(nil, uint64(len(x))), x...), api.OK
	}
	takes := func(b []byte) (B, int, api.Errno) {
		n, size, fault := modelNumbers(0, far).takes(b)
		switch {
		case fault != api.OK:
			return none, 0, fault
		case n > most:
			return none, 0, api.ErrPackLong
		case len(b)-size < n:
			return none, 0, api.ErrPackShort
		}
		return B(b[size : size+n]), size + n, api.OK
	}
	return model[B]{lays, takes}
}

func modelLists[T any](one model[T], most int) model[[]T] {
	lays := func(x []T) ([]byte, api.Errno) {
		if len(x) > most || len(x) > api.MaxLen {
			return nil, api.ErrPackLong
		}
		b := binary.AppendUvarint(nil, uint64(len(x)))
		for _, thing := range x {
			more, fault := one.lays(thing)
			if fault != api.OK {
				return nil, fault
			}
			b = append(b, more...)
		}
		return b, api.OK
	}
	takes := func(b []byte) ([]T, int, api.Errno) {
		n, at, fault := modelNumbers(0, far).takes(b)
		switch {
		case fault != api.OK:
			return nil, 0, fault
		case n > most || n > api.MaxLen:
			return nil, 0, api.ErrPackLong
		case len(b)-at < n:
			return nil, 0, api.ErrPackShort
		}
		var list []T
		for range n {
			thing, size, fault := one.takes(b[at:])
			at += size
			if fault != api.OK {
				return nil, at, fault
			}
			list = append(list, thing)
		}
		return list, at, api.OK
	}
	return model[[]T]{lays, takes}
}

// pair is a form with its model and with values to try it at.
type pair[T any] struct {
	name   string
	form   Form[T]
	model  model[T]
	values []T
}

// told is a value as text in which nil and empty are one.
func told(x any) string { return fmt.Sprintf("%x", x) }

// checks is what each test of a pair asks; the pairs have types of their own,
// so that a table of them holds these calls.
type checks struct {
	name string
	lays func(t *testing.T)                                              // Put against the model, with just the room and with one byte less
	take func(t *testing.T, b []byte)                                    // Take against the model
	back func(t *testing.T)                                              // P2.8
	one  func(t *testing.T, b []byte)                                    // P2.9
	lone func(t *testing.T)                                              // P2.10
	some func(r *rand.Rand) (put func(*Writer), take func(*Reader) bool) // a value for P2.11; nil, if the form has none
}

func (p pair[T]) checks() checks {
	c := checks{p.name, p.checkLays, p.checkTake, p.checkBack, p.checkOne, p.checkAlone, nil}
	may := slices.DeleteFunc(slices.Clone(p.values), func(x T) bool { _, fault := p.model.lays(x); return fault != api.OK })
	if len(may) > 0 {
		c.some = func(r *rand.Rand) (func(*Writer), func(*Reader) bool) { return p.part(may[r.Intn(len(may))]) }
	}
	return c
}

func (p pair[T]) checkLays(t *testing.T) {
	for _, x := range p.values {
		want, fault := p.model.lays(x)
		if b, e := Bytes(p.form, x, len(want)+20); string(b) != string(want) || e != fault {
			t.Errorf("%s: Bytes of %s: %x, %d, want %x, %d", p.name, told(x), b, e, want, fault)
		}
		if fault != api.OK {
			continue
		}
		if b, e := Bytes(p.form, x, len(want)); string(b) != string(want) || e != api.OK {
			t.Errorf("%s: Bytes of %s with just the room: %x, %d", p.name, told(x), b, e)
		}
		if b, e := Bytes(p.form, x, len(want)-1); len(b) != 0 || e != api.ErrPackLong {
			t.Errorf("%s: Bytes of %s with a byte less: %x, %d", p.name, told(x), b, e)
		}
	}
}

func (p pair[T]) checkTake(t *testing.T, b []byte) {
	var zero T
	want, at, fault := p.model.takes(b)
	if fault != api.OK {
		want = zero
	}
	r := NewReader(b)
	if x := p.form.Take(r); told(x) != told(want) || r.At() != at || r.Err() != fault {
		t.Errorf("%s: Take off %x: %s, at %d, %d; want %s, at %d, %d", p.name, b, told(x), r.At(), r.Err(), told(want), at, fault)
	}
	end := fault
	if end == api.OK && at < len(b) {
		end, want = api.ErrPackRest, zero
	}
	if e := r.End(); e != end {
		t.Errorf("%s: End behind %x: %d, want %d", p.name, b, e, end)
	}
	if x, e := Read(p.form, b); told(x) != told(want) || e != end {
		t.Errorf("%s: Read of %x: %s, %d; want %s, %d", p.name, b, told(x), e, told(want), end)
	}
}

func (p pair[T]) checkBack(t *testing.T) {
	for _, x := range p.values {
		b, e := Bytes(p.form, x, api.MaxLen)
		if e != api.OK {
			continue
		}
		if y, e := Read(p.form, b); told(y) != told(x) || e != api.OK {
			t.Errorf("%s: %s comes back as %s, %d", p.name, told(x), told(y), e)
		}
	}
}

func (p pair[T]) checkOne(t *testing.T, b []byte) {
	x, e := Read(p.form, b)
	if e != api.OK {
		return
	}
	if c, e := Bytes(p.form, x, api.MaxLen); string(c) != string(b) || e != api.OK {
		t.Errorf("%s: %x is read as %s, which is %x, %d", p.name, b, told(x), c, e)
	}
}

func (p pair[T]) checkAlone(t *testing.T) {
	for _, x := range p.values {
		a, e := Bytes(p.form, x, api.MaxLen)
		if e != api.OK {
			continue
		}
		for _, y := range p.values {
			b, e := Bytes(p.form, y, api.MaxLen)
			if e == api.OK && len(a) <= len(b) && string(a) == string(b[:len(a)]) && told(x) != told(y) {
				t.Errorf("%s: the bytes of %s begin those of %s", p.name, told(x), told(y))
			}
		}
	}
}

func (p pair[T]) part(x T) (put func(*Writer), take func(*Reader) bool) {
	put = func(w *Writer) { p.form.Put(w, x) }
	take = func(r *Reader) bool { return told(p.form.Take(r)) == told(x) }
	return put, take
}

func someNumbers() []int {
	list := []int{-1 << 63, -300, -3, -1, 0, 1, 4, 5, 7, 9, 10, 127, 128, 300, 999, 1000, 1001, far - 1, far}
	for bits := 7; bits < 63; bits += 7 {
		list = append(list, 1<<bits-1, 1<<bits)
	}
	return list
}

func numbers(least, most int) checks {
	return pair[int]{fmt.Sprintf("Numbers(%d, %d)", least, most), Numbers(least, most), modelNumbers(least, most), someNumbers()}.checks()
}

func texts(most int) checks {
	values := []string{"", "a", "ab", "abc", "\x00", "\xff\x80", string(make([]byte, 127)), string(make([]byte, 128)), string(make([]byte, 300))}
	return pair[string]{fmt.Sprintf("Texts(%d)", most), Texts(most), modelRows[string](most), values}.checks()
}

func blobs(most int) checks {
	values := [][]byte{nil, {}, {0}, {1, 2}, {0xff, 0x80, 0}, make([]byte, 127), make([]byte, 128), make([]byte, 300)}
	return pair[[]byte]{fmt.Sprintf("Blobs(%d)", most), Blobs(most), modelRows[[]byte](most), values}.checks()
}

func lists[T any](name string, one Form[T], m model[T], most int, values ...[]T) checks {
	return pair[[]T]{fmt.Sprintf("Lists(%s, %d)", name, most), Lists(one, most), modelLists(m, most), values}.checks()
}

// allForms are forms of every kind, put together of those of P2.3 and Lists.
func allForms() []checks {
	words := []uint64{0, 1, 258, 1 << 56, 255<<56 + 258, 1<<64 - 1}
	numbersTo9 := [][]int{nil, {}, {0}, {1, 2}, {1, 10}, {10, 1}, {-1}, {1, 2, 3}, {1, 2, 3, 4}, make([]int, 127), make([]int, 128)}
	return []checks{
		numbers(0, far), numbers(0, 1000), numbers(5, 9), numbers(-3, 9), numbers(9, 5), numbers(0, 0), numbers(1, 128), numbers(-9, -1), numbers(-1<<63, far), numbers(far, far),
		pair[uint64]{"Words", Words(), modelWords(), words}.checks(),
		pair[bool]{"Flags", Flags(), modelFlags(), []bool{false, true}}.checks(),
		texts(-1), texts(0), texts(2), texts(128), texts(far), texts(-1 << 63),
		blobs(-1), blobs(0), blobs(2), blobs(128), blobs(far), blobs(-1 << 63),
		lists("Numbers(0, 9)", Numbers(0, 9), modelNumbers(0, 9), 3, numbersTo9...),
		lists("Numbers(0, 9)", Numbers(0, 9), modelNumbers(0, 9), 0, numbersTo9...),
		lists("Numbers(0, 9)", Numbers(0, 9), modelNumbers(0, 9), -1, numbersTo9...),
		lists("Numbers(0, 300)", Numbers(0, 300), modelNumbers(0, 300), 128, append(numbersTo9, []int{128, 300, 301}, []int{300, 128, 5})...),
		lists("Flags", Flags(), modelFlags(), far, nil, []bool{true}, []bool{false, true}),
		lists("Words", Words(), modelWords(), 2, nil, words[:1], words[1:3], words),
		lists("Texts(2)", Texts(2), modelRows[string](2), 3, nil, []string{""}, []string{"a", "", "bc"}, []string{"abc"}, []string{"", "", "", ""}),
		lists("Lists(Texts(1), 2)", Lists(Texts(1), 2), modelLists(modelRows[string](1), 2), 2, nil, [][]string{nil}, [][]string{{"a", ""}, nil}, [][]string{{}, {"b"}}, [][]string{{"ab"}}, [][]string{{"", "", ""}}),
		lists("Lists(Blobs(3), 3)", Lists(Blobs(3), 3), modelLists(modelRows[[]byte](3), 3), 3, nil, [][][]byte{{{1, 2, 3}, nil}, {{0}}}, [][][]byte{nil, nil, nil}),
	}
}

// allBytes are all rows of at most four bytes out of some that matter to a
// form, and longer ones about the nine bytes of the longest number.
func allBytes() [][]byte {
	some := []byte{0x00, 0x01, 0x02, 0x03, 0x05, 0x0a, 0x7f, 0x80, 0x82, 0xff}
	rows := [][]byte{nil}
	for from := 0; len(rows[from]) < 4; from++ {
		for _, b := range some {
			rows = append(rows, append(slices.Clone(rows[from]), b))
		}
	}
	for n := 4; n < 12; n++ {
		for _, fill := range []byte{0x80, 0xff} {
			long := slices.Repeat([]byte{fill}, n)
			for _, b := range some {
				rows = append(rows, append(slices.Clone(long), b), append(slices.Clone(long), b, 1))
			}
		}
	}
	for n := range 300 {
		row := binary.AppendUvarint(nil, uint64(n))
		rows = append(rows, append(slices.Clone(row), make([]byte, n)...), append(slices.Clone(row), make([]byte, n+1)...))
		if n > 0 {
			rows = append(rows, append(row, make([]byte, n-1)...))
		}
	}
	return rows
}
