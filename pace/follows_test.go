package pace

import (
	"math"
	"math/big"
	"math/rand"
	"slices"
	"testing"

	"escapement/api"
)

// What follows, P9.6 to P9.9.

// unmoved finds z of z ^ (z >> bits): the high bits stand as they were, and tell the lower ones.
func unmoved(word uint64, bits int) uint64 {
	z := word
	for range 64/bits + 1 {
		z = word ^ z>>bits
	}
	return z
}

// inverse is the word that times this one is 1.
func inverse(constant string) uint64 {
	over := new(big.Int).Lsh(big.NewInt(1), 64)
	return new(big.Int).ModInverse(hexadecimal(constant), over).Uint64()
}

// back goes from Mix's answer to (luck + 9e3779b97f4a7c15) ^ x.
func back(answer uint64) uint64 {
	y := unmoved(answer, 31) * inverse("94d049bb133111eb")
	z := unmoved(y, 27) * inverse("bf58476d1ce4e5b9")
	return unmoved(z, 30)
}

// P9.6: from the answer and one argument the other one is found, so no two have one answer.
func TestMixBack(t *testing.T) {
	t.Parallel()
	const step = 0x9e3779b97f4a7c15
	found := func(luck, x uint64) {
		z := back(Mix(luck, x))
		if (z^x)-step != luck {
			t.Fatalf("P9.6: the luck of Mix(%x, %x) is not found again", luck, x)
		}
		if z^(luck+step) != x {
			t.Fatalf("P9.6: the draw of Mix(%x, %x) is not found again", luck, x)
		}
	}
	for _, luck := range words() {
		for _, x := range words() {
			if (luck^x)%16 == 0 { // as many as time allows
				found(luck, x)
			}
		}
	}
	r := chance(6)
	for range 20000 {
		found(r.Uint64(), r.Uint64())
	}
}

// P9.6: many lucks behind one draw, many draws behind one luck, neighbours and those that have one bit more among them.
func TestMixUnlike(t *testing.T) {
	t.Parallel()
	many := words()
	for n := range uint64(1 << 15) {
		many = append(many, n, n<<49, n<<25, math.MaxUint64-n)
	}
	slices.Sort(many)
	many = slices.Compact(many)
	for _, other := range []uint64{0, 1, 0x9e3779b97f4a7c15, 1 << 63, math.MaxUint64} {
		behindDraw, behindLuck := map[uint64]uint64{}, map[uint64]uint64{}
		for _, one := range many {
			if luck, there := behindDraw[Mix(one, other)]; there {
				t.Fatalf("P9.6: the lucks %x and %x are alike behind the draw %x", luck, one, other)
			}
			behindDraw[Mix(one, other)] = one
			if x, there := behindLuck[Mix(other, one)]; there {
				t.Fatalf("P9.6: the luck %x is alike behind the draws %x and %x", other, x, one)
			}
			behindLuck[Mix(other, one)] = one
		}
	}
}

// doubles goes from the first delay on, each twice the one ahead of it, up to most.
func doubles(t *testing.T, base, most int) {
	before, code := Delay(base, most, 1)
	if before != min(base, most) || code != api.OK {
		t.Fatalf("P9.7: Delay(%d, %d, 1): %d, %d", base, most, before, code)
	}
	for k := 1; k < 70; k++ {
		next, code := Delay(base, most, k+1)
		if next != min(most, 2*before) || code != api.OK {
			t.Fatalf("P9.7: Delay(%d, %d, %d) is %d, the next one %d, %d", base, most, k, before, next, code)
		}
		if next < before || next > most {
			t.Fatalf("P9.7: Delay(%d, %d, %d) is %d, the next one %d", base, most, k, before, next)
		}
		if k+1 >= 41 && base != 0 && next != most || base == 0 && next != 0 {
			t.Fatalf("P9.7: Delay(%d, %d, %d): %d", base, most, k+1, next)
		}
		before = next
	}
}

// P9.7: delays double up to the most.
func TestDelaysDouble(t *testing.T) {
	t.Parallel()
	for _, base := range delays() {
		for _, most := range delays() {
			doubles(t, base, most)
		}
	}
	r := chance(7)
	for range 5000 {
		doubles(t, anyDelay(r), anyDelay(r))
	}
}

// drawn is a run, a node and an attempt as a scheduler has them, or far greater ones.
func drawn(r *rand.Rand) (luck uint64, run, node, attempt int) {
	bits := r.Intn(64)
	return r.Uint64(), int(r.Uint64() >> 1 >> bits), r.Intn(64), int(r.Uint64() >> 1 >> bits)
}

// P9.8: Jitter is 0 to most, and 0 of 0.
func TestJitterWithin(t *testing.T) {
	t.Parallel()
	r := chance(8)
	for _, most := range delays() {
		for range 300 {
			luck, run, node, attempt := drawn(r)
			if ticks, code := Jitter(luck, run, node, attempt, most); ticks < 0 || ticks > most || code != api.OK {
				t.Fatalf("P9.8: Jitter(%d, %d, %d, %d, %d): %d, %d", luck, run, node, attempt, most, ticks, code)
			}
			wantsJitter(t, "P9.8", luck, run, node, attempt, 0, 0, api.OK)
		}
	}
}

// P9.3: each number from 0 to most is drawn, about as often, for a run's attempts in a row.
func TestJitterAll(t *testing.T) {
	t.Parallel()
	for most := range 20 {
		times := make([]int, most+1)
		for attempt := range 100 * (most + 1) {
			ticks, _ := Jitter(uint64(most), 1, 0, attempt, most)
			times[ticks]++
		}
		for ticks, n := range times {
			if n < 30 || n > 200 && most > 0 {
				t.Errorf("P9.3: of a most of %d, %d was drawn %d times of %d", most, ticks, n, 100*(most+1))
			}
		}
	}
}

// P9.8: of a most twice as great (and one more) it is the same, or 2^n more; both come about.
func TestJitterTwice(t *testing.T) {
	t.Parallel()
	r := chance(9)
	for n := range 40 {
		sames := 0
		for range 400 {
			luck, run, node, attempt := drawn(r)
			less, _ := Jitter(luck, run, node, attempt, 1<<n-1)
			more, code := Jitter(luck, run, node, attempt, 1<<(n+1)-1)
			if code != api.OK || more != less && more != less+1<<n {
				t.Fatalf("P9.8: Jitter(%d, %d, %d, %d) of 2^%d - 1 is %d, of 2^%d - 1 %d, %d", luck, run, node, attempt, n, less, n+1, more, code)
			}
			if more == less {
				sames++
			}
		}
		if sames < 100 || sames > 300 {
			t.Errorf("P9.8: of 400 draws below 2^%d, %d were the same as below 2^%d", n+1, sames, n)
		}
	}
}

// P9.9: Bound beside the Deadline, with a greater gap, a greater ahead, a node more, the nodes in another order.
func TestBoundFollows(t *testing.T) {
	t.Parallel()
	r := chance(10)
	for range 20000 {
		p := anyPlan(r, r.Intn(64))
		gap, ahead := anySpan(r)>>r.Intn(40)+1, r.Intn(1<<r.Intn(11)+1)
		gap = min(gap, greatest)
		ticks := bound(t, p, gap, ahead)
		if ticks > p.Deadline || ticks < 0 {
			t.Fatalf("P9.9: %d is above the Deadline %d", ticks, p.Deadline)
		}
		if wider := bound(t, p, min(greatest, gap+anySpan(r)), ahead); wider < ticks {
			t.Fatalf("P9.9: with a greater gap %d instead of %d", wider, ticks)
		}
		if behind := bound(t, p, gap, min(1024, ahead+1+r.Intn(100))); behind < ticks {
			t.Fatalf("P9.9: with a greater ahead %d instead of %d", behind, ticks)
		}
		more := copyOf(p)
		more.Nodes = slices.Insert(more.Nodes, r.Intn(len(p.Nodes)+1), anyNode(r))
		if longer := bound(t, more, gap, ahead); longer < ticks {
			t.Fatalf("P9.9: with a node more %d instead of %d", longer, ticks)
		}
		other := copyOf(p)
		r.Shuffle(len(other.Nodes), func(i, k int) { other.Nodes[i], other.Nodes[k] = other.Nodes[k], other.Nodes[i] })
		if again := bound(t, other, gap, ahead); again != ticks {
			t.Fatalf("P9.9: in another order %d instead of %d", again, ticks)
		}
	}
}

// P9.9: one tick, one place and one node more, where the Deadline is far: just as many ticks more as the sum says.
func TestBoundGrows(t *testing.T) {
	p := plain(7)
	budgets := 0
	for _, n := range p.Nodes {
		budgets += n.Budget
	}
	for _, gap := range []int{1, 2, 3, 100, 1000} {
		for _, ahead := range []int{0, 1, 2, 100, 1023} {
			ticks := bound(t, p, gap, ahead)
			if more := bound(t, p, gap+1, ahead) - ticks; more != budgets*(ahead+1) {
				t.Errorf("P9.9: a gap of %d more than %d, ahead %d: %d ticks more", 1, gap, ahead, more)
			}
			if more := bound(t, p, gap, ahead+1) - ticks; more != budgets*gap {
				t.Errorf("P9.9: gap %d, one more than %d ahead: %d ticks more", gap, ahead, more)
			}
			longer := copyOf(p)
			longer.Nodes = append(longer.Nodes, api.Node{Budget: 4, Close: 5, Cap: 6, Jitter: 7})
			if more := bound(t, longer, gap, ahead) - ticks; more != 4*(5+6+7+(ahead+1)*gap) {
				t.Errorf("P9.9: gap %d, ahead %d, a node more: %d ticks more", gap, ahead, more)
			}
		}
	}
}

// P9.9: every order of five nodes.
func TestBoundOrders(t *testing.T) {
	p := plain(5)
	for _, p.Deadline = range []int{1, 300, greatest} {
		want := bound(t, p, 3, 2)
		var turn func(at int)
		turn = func(at int) {
			if at == len(p.Nodes) {
				wantsBound(t, "P9.9", p, 3, 2, want, api.OK)
				return
			}
			for i := at; i < len(p.Nodes); i++ {
				p.Nodes[at], p.Nodes[i] = p.Nodes[i], p.Nodes[at]
				turn(at + 1)
				p.Nodes[at], p.Nodes[i] = p.Nodes[i], p.Nodes[at]
			}
		}
		turn(0)
	}
}
