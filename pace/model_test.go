package pace

import (
	"math"
	"math/big"
	"math/rand"
	"slices"
	"testing"

	"escapement/api"
)

const greatest = 1 << 40 // the greatest delay, as the chapter writes it

func chance(seed int64) *rand.Rand { return rand.New(rand.NewSource(seed)) }

// The model has the chapter's words, with numbers of any length.

func number(n int) *big.Int { return big.NewInt(int64(n)) }

func word(n uint64) *big.Int { return new(big.Int).SetUint64(n) }

func hexadecimal(text string) *big.Int {
	n, _ := new(big.Int).SetString(text, 16)
	return n
}

// cut lets go what runs over 64 bits.
func cut(n *big.Int) *big.Int {
	return new(big.Int).Mod(n, new(big.Int).Lsh(big.NewInt(1), 64))
}

func moved(z *big.Int, bits uint) *big.Int {
	return new(big.Int).Xor(z, new(big.Int).Rsh(z, bits))
}

func modelMix(luck, x uint64) uint64 {
	z := new(big.Int).Xor(cut(new(big.Int).Add(word(luck), hexadecimal("9e3779b97f4a7c15"))), word(x))
	y := cut(new(big.Int).Mul(moved(z, 30), hexadecimal("bf58476d1ce4e5b9")))
	w := cut(new(big.Int).Mul(moved(y, 27), hexadecimal("94d049bb133111eb")))
	return moved(w, 31).Uint64()
}

func lesser(a, b *big.Int) int {
	if a.Cmp(b) < 0 {
		return int(a.Int64())
	}
	return int(b.Int64())
}

// modelDelay does not shrink the power of two, so its k can not be just any number.
func modelDelay(base, most, k int) (int, api.Errno) {
	if base < 0 || base > greatest || most < 0 || most > greatest || k < 1 {
		return 0, 90
	}
	return lesser(number(most), new(big.Int).Lsh(number(base), uint(k-1))), 0
}

func modelJitter(luck uint64, run, node, attempt, most int) (int, api.Errno) {
	if most < 0 || most > greatest || run < 0 || node < 0 || attempt < 0 {
		return 0, 90
	}
	h := modelMix(modelMix(modelMix(luck, uint64(run)), uint64(node)), uint64(attempt))
	return int(new(big.Int).Mod(word(h), number(most+1)).Int64()), 0
}

func modelWait(n api.Node, luck uint64, run, node, attempt int) (int, api.Errno) {
	delay, refused := modelDelay(n.Base, n.Cap, attempt)
	jitter, also := modelJitter(luck, run, node, attempt, n.Jitter)
	if refused != 0 || also != 0 {
		return 0, 90
	}
	return delay + jitter, 0
}

func modelBound(p api.Plan, gap, ahead int) (int, api.Errno) {
	outside := func(n, least, most int) bool { return n < least || n > most }
	if outside(gap, 1, greatest) || outside(ahead, 0, 1024) || outside(p.Deadline, 1, greatest) || outside(len(p.Nodes), 0, 64) {
		return 0, 90
	}
	all := new(big.Int)
	for _, n := range p.Nodes {
		if outside(n.Budget, 1, 100) || outside(n.Close, 1, greatest) || outside(n.Cap, 1, greatest) || outside(n.Jitter, 0, greatest) {
			return 0, 90
		}
		attempt := new(big.Int).Mul(number(ahead+1), number(gap))
		for _, ticks := range []int{n.Close, n.Cap, n.Jitter} {
			attempt.Add(attempt, number(ticks))
		}
		all.Add(all, attempt.Mul(attempt, number(n.Budget)))
	}
	return lesser(number(p.Deadline), all), 0
}

// Numbers about the edges: of a delay, of powers of two, of an int.

func delays() []int {
	list := []int{0, 3, 5, 6, 7, 9, 10, 100, 1000, 999983, greatest/3 - 1, greatest / 3, greatest/3 + 1}
	for n := range 41 {
		list = append(list, 1<<n-1, 1<<n, min(1<<n+1, greatest))
	}
	slices.Sort(list)
	return slices.Compact(list)
}

// noDelays lie on both sides of what a delay may be, some with low bits that would be one.
func noDelays() []int {
	return []int{math.MinInt, math.MinInt + 1, -1 << 40, -1<<40 + 5, -1 << 32, -1<<32 + 5, -100, -2, -1,
		greatest + 1, greatest + 2, 1<<40 + 1<<32, 1 << 41, 1<<41 + 5, 1 << 62, math.MaxInt - 1, math.MaxInt}
}

func negatives() []int { return []int{math.MinInt, math.MinInt + 1, -1 << 32, -1<<32 + 1, -3, -2, -1} }

func words() []uint64 {
	list := []uint64{0, 0x9e3779b97f4a7c15, 0x61c8864680b583eb, 0x61c8864680b583ea, 0x61c8864680b583ec,
		0xbf58476d1ce4e5b9, 0x94d049bb133111eb, 0xaaaaaaaaaaaaaaaa, 0x5555555555555555, math.MaxUint64, math.MaxUint64 - 1, math.MaxUint64 - 4}
	for n := range 64 {
		list = append(list, 1<<n, 1<<n-1, 1<<n+1, ^uint64(1<<n))
	}
	slices.Sort(list)
	return slices.Compact(list)
}

// anyDelay is as often small as great.
func anyDelay(r *rand.Rand) int { return r.Intn(1<<r.Intn(41) + 1) }

// anySpan is a delay from 1 on.
func anySpan(r *rand.Rand) int { return r.Intn(1<<r.Intn(41)) + 1 }

func anyNode(r *rand.Rand) api.Node {
	return api.Node{Budget: r.Intn(100) + 1, Close: anySpan(r), Cap: anySpan(r), Jitter: anyDelay(r), Base: anyDelay(r)}
}

// anyPlan has so many nodes, small numbers in most plans, so that the Deadline is not always the lesser one.
func anyPlan(r *rand.Rand, nodes int) api.Plan {
	p := api.Plan{Deadline: anySpan(r)}
	if r.Intn(2) == 0 {
		p.Deadline = greatest
	}
	bits := r.Intn(41)
	for range nodes {
		n := anyNode(r)
		n.Close, n.Cap, n.Jitter = n.Close>>bits+1, n.Cap>>bits+1, n.Jitter>>bits
		p.Nodes = append(p.Nodes, n)
	}
	return p
}

func copyOf(p api.Plan) api.Plan {
	p.Nodes = slices.Clone(p.Nodes)
	return p
}

// Each asks the package, and holds the answer against what is wanted.

func wantsDelay(t *testing.T, promise string, base, most, k, want int, wantCode api.Errno) {
	t.Helper()
	if got, code := Delay(base, most, k); got != want || code != wantCode {
		t.Errorf("%s: Delay(%d, %d, %d): %d, %d; want %d, %d", promise, base, most, k, got, code, want, wantCode)
	}
}

func wantsJitter(t *testing.T, promise string, luck uint64, run, node, attempt, most, want int, wantCode api.Errno) {
	t.Helper()
	if got, code := Jitter(luck, run, node, attempt, most); got != want || code != wantCode {
		t.Errorf("%s: Jitter(%d, %d, %d, %d, %d): %d, %d; want %d, %d", promise, luck, run, node, attempt, most, got, code, want, wantCode)
	}
}

func wantsWait(t *testing.T, promise string, n api.Node, luck uint64, run, node, attempt, want int, wantCode api.Errno) {
	t.Helper()
	if got, code := Wait(n, luck, run, node, attempt); got != want || code != wantCode {
		t.Errorf("%s: Wait(%+v, %d, %d, %d, %d): %d, %d; want %d, %d", promise, n, luck, run, node, attempt, got, code, want, wantCode)
	}
}

func wantsBound(t *testing.T, promise string, p api.Plan, gap, ahead, want int, wantCode api.Errno) {
	t.Helper()
	if got, code := Bound(p, gap, ahead); got != want || code != wantCode {
		t.Errorf("%s: Bound of Deadline %d and %d nodes, gap %d, ahead %d: %d, %d; want %d, %d", promise, p.Deadline, len(p.Nodes), gap, ahead, got, code, want, wantCode)
	}
}

func sameDelay(t *testing.T, base, most, k int) {
	t.Helper()
	want, code := modelDelay(base, most, k)
	wantsDelay(t, "P9.2", base, most, k, want, code)
}

func sameJitter(t *testing.T, luck uint64, run, node, attempt, most int) {
	t.Helper()
	want, code := modelJitter(luck, run, node, attempt, most)
	wantsJitter(t, "P9.3", luck, run, node, attempt, most, want, code)
}

func sameWait(t *testing.T, n api.Node, luck uint64, run, node, attempt int) {
	t.Helper()
	want, code := modelWait(n, luck, run, node, attempt)
	wantsWait(t, "P9.4", n, luck, run, node, attempt, want, code)
}

func sameBound(t *testing.T, p api.Plan, gap, ahead int) {
	t.Helper()
	want, code := modelBound(p, gap, ahead)
	wantsBound(t, "P9.5", p, gap, ahead, want, code)
}

// bound asks for what is not refused.
func bound(t *testing.T, p api.Plan, gap, ahead int) int {
	t.Helper()
	ticks, code := Bound(p, gap, ahead)
	if code != api.OK {
		t.Fatalf("P9.5: Bound of Deadline %d and %d nodes, gap %d, ahead %d: error %d", p.Deadline, len(p.Nodes), gap, ahead, code)
	}
	return ticks
}
