package sum

import (
	"bytes"
	"hash/crc32"
	"math"
	"math/rand"
	"testing"

	"escapement/api"
)

// slowBit, slowBytes and slowMoved are the chapter's words, bit by bit, so that
// the package's own short cuts are held against something that has none.
func slowBit(r uint32, bit uint32) uint32 {
	c := r&1 ^ bit
	r >>= 1
	if c == 1 {
		r ^= 0x82f63b78
	}
	return r
}

func slowBytes(r uint32, data []byte) uint32 {
	for _, b := range data {
		for i := range 8 {
			r = slowBit(r, uint32(b)>>i&1)
		}
	}
	return r
}

func slowMoved(x uint32, n int) uint32 {
	for range n {
		x = slowBytes(x, []byte{0})
	}
	return x
}

func slowSum(data []byte) uint32 { return ^slowBytes(0xffffffff, data) }

func chance() *rand.Rand { return rand.New(rand.NewSource(1)) }

func someBytes(r *rand.Rand, n int) []byte {
	b := make([]byte, n)
	r.Read(b)
	return b
}

// edgeSums are sums at which every s, a and b is tried beside those of chance.
func edgeSums() []uint32 {
	return []uint32{0, 1, 5, 0x7fffffff, 0x80000000, 0x82f63b78, 0xfffffffe, 0xffffffff}
}

func TestSumExamples(t *testing.T) {
	for _, c := range []struct {
		text string
		want uint32
	}{
		{"", 0}, {"a", 0xc1d04330}, {"123456789", 0xe3069283},
		{"\x00", 0x527d5351}, {"\x00\x00\x00\x00", 0x48674bc7},
		{"1234", 0xf63af4ee}, {"56789", 0x83b565d8},
		{"the cat", 0xe4245b17}, {"the hat", 0x365ba5a1},
	} {
		if got := Sum([]byte(c.text)); got != c.want {
			t.Errorf("P1.1: Sum(%q) = %08x, want %08x", c.text, got, c.want)
		}
	}
	if got := Sum(nil); got != 0 {
		t.Errorf("P1.1: Sum(nil) = %08x, want 0", got)
	}
}

func TestSumIsTheSum(t *testing.T) {
	r := chance()
	known := crc32.MakeTable(crc32.Castagnoli)
	for n := range 600 {
		data := someBytes(r, n)
		if got, want := Sum(data), slowSum(data); got != want || got != crc32.Checksum(data, known) {
			t.Fatalf("P1.1: the sum of %d bytes: %08x, want %08x", n, got, want)
		}
	}
	long := someBytes(r, 1<<20+3)
	if got, want := Sum(long), crc32.Checksum(long, known); got != want {
		t.Errorf("P1.1: the sum of a long text: %08x, want %08x", got, want)
	}
}

func TestSumOfEachByte(t *testing.T) {
	for b := range 256 {
		data := []byte{byte(b)}
		if got, want := Sum(data), slowSum(data); got != want {
			t.Errorf("P1.1: the sum of the byte %02x: %08x, want %08x", b, got, want)
		}
	}
}

func TestMoreExamples(t *testing.T) {
	if got := More(0xf63af4ee, []byte("56789")); got != 0xe3069283 {
		t.Errorf("P1.2: More(f63af4ee, 56789) = %08x", got)
	}
	if got := More(5, nil); got != 5 {
		t.Errorf("P1.2: More(5, nothing) = %08x", got)
	}
}

func TestMoreOfNothing(t *testing.T) {
	for _, s := range edgeSums() {
		if got := More(s, nil); got != s {
			t.Errorf("P1.2: More(%08x, nil) = %08x", s, got)
		}
		if got := More(s, []byte{}); got != s {
			t.Errorf("P1.2: More(%08x, no bytes) = %08x", s, got)
		}
	}
}

func TestMoreGoesOnFromEverySum(t *testing.T) {
	r := chance()
	for n := range 300 {
		data := someBytes(r, n)
		if got, want := More(0, data), Sum(data); got != want {
			t.Fatalf("P1.2: More(0, %d bytes) = %08x, the sum is %08x", n, got, want)
		}
		for _, s := range append(edgeSums(), r.Uint32()) {
			if got, want := More(s, data), ^slowBytes(^s, data); got != want {
				t.Fatalf("P1.2: More(%08x, %d bytes) = %08x, want %08x", s, n, got, want)
			}
		}
	}
}

func TestJoinExamples(t *testing.T) {
	for _, c := range []struct {
		a, b uint32
		n    int
		want uint32
	}{
		{0xf63af4ee, 0x83b565d8, 5, 0xe3069283},
		{0x80000000, 0, 1, 0x00800000}, {1, 0, 4, 0xdd45aab8}, {7, 9, 0, 0x0000000e},
		{1, 0, 1000000, 0x27fd3000}, {1, 0, math.MaxInt64, 0xf26b8303}, {1, 0, -1, 0},
	} {
		if got := Join(c.a, c.b, c.n); got != c.want {
			t.Errorf("P1.3: Join(%08x, %08x, %d) = %08x, want %08x", c.a, c.b, c.n, got, c.want)
		}
	}
}

func TestJoinBelowZero(t *testing.T) {
	for _, n := range []int{-1, -2, -8, -1 << 31, math.MinInt + 1, math.MinInt} {
		for _, s := range edgeSums() {
			if got := Join(s, ^s, n); got != 0 {
				t.Errorf("P1.3: Join(%08x, %08x, %d) = %08x, want 0", s, ^s, n, got)
			}
		}
	}
}

func TestJoinMovesOnFromEverySum(t *testing.T) {
	r := chance()
	for n := range 300 {
		for _, a := range append(edgeSums(), r.Uint32()) {
			b := r.Uint32()
			if got, want := Join(a, b, n), slowMoved(a, n)^b; got != want {
				t.Fatalf("P1.3: Join(%08x, %08x, %d) = %08x, want %08x", a, b, n, got, want)
			}
		}
	}
	for _, n := range []int{1<<16 - 1, 1 << 16, 1<<20 + 7} {
		a, b := r.Uint32(), r.Uint32()
		if got, want := Join(a, b, n), slowMoved(a, n)^b; got != want {
			t.Errorf("P1.3: Join(%08x, %08x, %d) = %08x, want %08x", a, b, n, got, want)
		}
	}
}

// Every register is itself again when it has taken in 2^31 - 1 bits 0 (fold stands
// for x + 1 times a polynomial of degree 31 that x goes all the way round in), and
// so behind that many bytes: great n can be held against the bit-by-bit words.
func TestJoinFarAway(t *testing.T) {
	const round = 1<<31 - 1
	r := chance()
	for _, rounds := range []int{1, 2, 3, 1 << 20, 1<<31 + 12345, math.MaxInt64 / round} {
		for _, rest := range []int{0, 1, 2, 77} {
			n := rounds*round + rest
			if n < 0 {
				continue
			}
			a, b := r.Uint32(), r.Uint32()
			if got, want := Join(a, b, n), slowMoved(a, rest)^b; got != want {
				t.Errorf("P1.3: Join(%08x, %08x, %d) = %08x, want %08x", a, b, n, got, want)
			}
		}
	}
	if got, want := Join(0xffffffff, 0, math.MaxInt64), slowMoved(0xffffffff, 1); got != want {
		t.Errorf("P1.3: Join(ffffffff, 0, the greatest) = %08x, want %08x", got, want)
	}
}

func TestPatchExamples(t *testing.T) {
	const cat = 0xe4245b17
	for _, c := range []struct {
		n, at    int
		old, now string
		want     uint32
		code     api.Errno
	}{
		{7, 4, "c", "h", 0x365ba5a1, api.OK},
		{7, 7, "", "", cat, api.OK},
		{7, 6, "at", "og", 0, api.ErrSumPlace},
		{7, 0, "the", "a", 0, api.ErrSumPlace},
		{-1, 0, "", "", 0, api.ErrSumPlace},
		{7, -1, "c", "h", 0, api.ErrSumPlace},
	} {
		got, code := Patch(cat, c.n, c.at, []byte(c.old), []byte(c.now))
		if got != c.want || code != c.code {
			t.Errorf("P1.4: Patch(%d, %d, %q, %q) = %08x, %d, want %08x, %d", c.n, c.at, c.old, c.now, got, code, c.want, c.code)
		}
	}
}

func TestPatchRefuses(t *testing.T) {
	for _, c := range []struct {
		why      string
		n, at    int
		old, now string
	}{
		{"n below 0", -1, 0, "", ""},
		{"n far below 0", math.MinInt, 0, "", ""},
		{"n below 0, so that n - at wraps round", math.MinInt, 1, "c", "h"},
		{"n below 0, so that n - at wraps round", math.MinInt, math.MaxInt, "c", "h"},
		{"at below 0", 7, -1, "c", "h"},
		{"at below 0, no bytes", 7, -1, "", ""},
		{"at far below 0", 7, math.MinInt, "c", "h"},
		{"both below 0", -1, -2, "c", "h"},
		{"at below 0, so that n - at wraps round", math.MaxInt, -1, "c", "h"},
		{"old is shorter", 7, 0, "a", "the"},
		{"now is shorter", 7, 0, "the", "a"},
		{"no old", 7, 0, "", "a"},
		{"no now", 7, 0, "a", ""},
		{"a byte too many", 7, 6, "at", "og"},
		{"behind the end", 7, 7, "a", "b"},
		{"far behind the end", 7, 8, "", ""},
		{"as far behind the end as can be", 7, math.MaxInt, "", ""},
		{"at the end of the longest", math.MaxInt, math.MaxInt, "c", "h"},
		{"a text of no bytes", 0, 0, "c", "h"},
		{"a text of no bytes, behind it", 0, 1, "", ""},
		{"longer than the text", 3, 0, "four", "bits"},
	} {
		got, code := Patch(0xe4245b17, c.n, c.at, []byte(c.old), []byte(c.now))
		if got != 0 || code != api.ErrSumPlace {
			t.Errorf("P1.4: %s: Patch(%d, %d, %q, %q) = %08x, %d", c.why, c.n, c.at, c.old, c.now, got, code)
		}
	}
}

func TestPatchTurnsEveryPlace(t *testing.T) {
	r := chance()
	const n = 40
	text := someBytes(r, n)
	for at := range n + 1 {
		for long := range n - at + 1 {
			other := bytes.Clone(text)
			copy(other[at:], someBytes(r, long))
			got, code := Patch(Sum(text), n, at, text[at:at+long], other[at:at+long])
			if want := Sum(other); got != want || code != api.OK {
				t.Fatalf("P1.4: Patch of %d bytes at %d of %d = %08x, %d, want %08x", long, at, n, got, code, want)
			}
		}
	}
}

func TestPatchAtEverySum(t *testing.T) {
	r := chance()
	for n := range 60 {
		old, now := someBytes(r, n/3), someBytes(r, n/3)
		at := n / 2
		x := slowMoved(slowSum(old)^slowSum(now), n-at-len(old))
		for _, s := range append(edgeSums(), r.Uint32()) {
			if got, code := Patch(s, n, at, old, now); got != s^x || code != api.OK {
				t.Fatalf("P1.4: Patch(%08x, %d, %d) = %08x, %d, want %08x", s, n, at, got, code, s^x)
			}
		}
	}
}

func TestPatchOfTheLongestText(t *testing.T) {
	old, now := []byte("c"), []byte("h")
	x := slowSum(old) ^ slowSum(now)
	if got, code := Patch(5, math.MaxInt64, math.MaxInt64-1, old, now); got != 5^x || code != api.OK {
		t.Errorf("P1.4: at the very end: %08x, %d, want %08x", got, code, 5^x)
	}
	// The greatest int less one is 0 in rounds of 2^31 - 1 bytes: see TestJoinFarAway.
	if got, code := Patch(5, math.MaxInt64, 0, old, now); got != 5^x || code != api.OK {
		t.Errorf("P1.4: at the very beginning: %08x, %d, want %08x", got, code, 5^x)
	}
	if got, code := Patch(5, math.MaxInt64, math.MaxInt64, nil, nil); got != 5 || code != api.OK {
		t.Errorf("P1.4: no bytes behind the longest text: %08x, %d", got, code)
	}
}

func TestCutAnywhere(t *testing.T) {
	r := chance()
	for n := range 120 {
		text := someBytes(r, n)
		want := Sum(text)
		for cut := range n + 1 {
			head, tail := text[:cut], text[cut:]
			if got := More(Sum(head), tail); got != want {
				t.Fatalf("P1.5: More, %d bytes cut at %d: %08x, want %08x", n, cut, got, want)
			}
			if got := Join(Sum(head), Sum(tail), len(tail)); got != want {
				t.Fatalf("P1.5: Join, %d bytes cut at %d: %08x, want %08x", n, cut, got, want)
			}
		}
	}
}

// turnBits turns the bits of a pattern, from a bit's place on, in the order in which bits are taken in.
func turnBits(text []byte, place int, pattern uint32) []byte {
	other := bytes.Clone(text)
	for i := range 32 {
		if bit := place + i; pattern>>i&1 == 1 && bit < 8*len(text) {
			other[bit/8] ^= 1 << (bit % 8)
		}
	}
	return other
}

func TestNeighbouringBitsAreSeen(t *testing.T) {
	r := chance()
	text := someBytes(r, 20)
	whole := Sum(text)
	for place := range 8 * len(text) {
		patterns := []uint32{0xffffffff, 0x82f63b78, 0x05ec76f1, 0x80000001}
		for i := range 32 {
			patterns = append(patterns, 1<<i, r.Uint32())
		}
		for _, p := range patterns {
			other := turnBits(text, place, p)
			if !bytes.Equal(other, text) && Sum(other) == whole {
				t.Fatalf("P1.5: the bits %08x from %d on are not seen", p, place)
			}
		}
	}
}

func TestThreeTextsTogether(t *testing.T) {
	r := chance()
	for n := range 200 {
		a, b, c := someBytes(r, n), someBytes(r, n), someBytes(r, n)
		all := make([]byte, n)
		for i := range all {
			all[i] = a[i] ^ b[i] ^ c[i]
		}
		if got, want := Sum(all), Sum(a)^Sum(b)^Sum(c); got != want {
			t.Fatalf("P1.5: three texts of %d bytes together: %08x, want %08x", n, got, want)
		}
	}
}

func TestJoinInEitherOrder(t *testing.T) {
	r := chance()
	for _, c := range []struct{ n, m int }{
		{0, 0}, {0, 1}, {1, 0}, {5, 9}, {1000, 1000000}, {1 << 40, 1<<41 - 3},
		{math.MaxInt, 0}, {0, math.MaxInt}, {math.MaxInt - 1, 1}, {1, math.MaxInt - 1},
		{math.MaxInt / 2, math.MaxInt/2 + 1},
	} {
		for range 20 {
			x, y, z := r.Uint32(), r.Uint32(), r.Uint32()
			left := Join(Join(x, y, c.n), z, c.m)
			right := Join(x, Join(y, z, c.m), c.n+c.m)
			if left != right {
				t.Fatalf("P1.5: Join of %08x, %08x (%d), %08x (%d): %08x and %08x", x, y, c.n, z, c.m, left, right)
			}
		}
	}
}

func TestNothingHandedInIsChanged(t *testing.T) {
	r := chance()
	old, now := someBytes(r, 64), someBytes(r, 64)
	oldAsItWas, nowAsItWas := bytes.Clone(old), bytes.Clone(now)
	// Slices with spare room: what stands in it is not to be changed either.
	Sum(old[:16])
	More(7, old[:16])
	Patch(7, 100, 3, old[:16], now[:16])
	Patch(7, 10, 3, old[:16], now[:16])
	if !bytes.Equal(old, oldAsItWas) || !bytes.Equal(now, nowAsItWas) {
		t.Error("R4: bytes that were handed in have changed")
	}
}
