package codec

import (
	"encoding/binary"
	"fmt"
	"math"
	"math/rand"
	"reflect"
	"slices"
	"strconv"
	"strings"
	"testing"

	"escapement/api"
	"escapement/pack"
	"escapement/plan"
)

const (
	delay = 1 << 40 // the greatest delay and the greatest count, as the chapters write them
	late  = 1 << 62 // the last tick
)

func chance(seed int64) *rand.Rand { return rand.New(rand.NewSource(seed)) }

// The model has the chapter's tables on its own, without a form: rows of bytes that are laid, and a scan that stops at the first fault.

func number(b []byte, n int) []byte { return binary.AppendUvarint(b, uint64(n)) }

func text(b []byte, s string) []byte { return append(number(b, len(s)), s...) }

func layNode(b []byte, n api.Node) []byte {
	b = text(b, n.Name)
	for _, x := range []int{n.Lane, n.Budget, n.Close, n.Beat, n.Base, n.Cap, n.Jitter} {
		b = number(b, x)
	}
	for _, list := range [][]int{n.Needs, n.After} {
		b = number(b, len(list))
		for _, x := range list {
			b = number(b, x)
		}
	}
	return b
}

// layPlan lays fields that may be, of a plan that may be or not.
func layPlan(b []byte, p api.Plan) []byte {
	b = number(number(text(b, p.Name), p.Deadline), len(p.Nodes))
	for _, n := range p.Nodes {
		b = layNode(b, n)
	}
	return b
}

func layOp(b []byte, o api.Op) []byte {
	b = number(b, o.Kind)
	switch o.Kind {
	case 1:
		return text(layPlan(b, o.Plan), o.Key)
	case 2:
		return number(number(b, o.Lane), o.Worker)
	case 3, 5:
		return number(b, o.Token)
	case 4:
		return text(number(b, o.Token), string(o.Result))
	case 6, 7:
		return number(b, o.Run)
	case 8:
		return binary.LittleEndian.AppendUint64(b, o.Luck)
	default:
		return number(b, o.Ticks)
	}
}

// scan goes through bytes; behind a fault it stands still, and all that it tells is zero.
type scan struct {
	b     []byte
	at    int
	fault api.Errno
}

// anyNumber is the one at the place, and where it ends; it is not taken yet.
func (s *scan) anyNumber() (int, int) {
	if s.fault != 0 {
		return 0, s.at
	}
	rest := s.b[s.at:]
	end := slices.IndexFunc(rest, func(x byte) bool { return x < 128 })
	switch {
	case end < 0 && len(rest) < 9:
		s.fault = 21
	case end < 0 || end > 8 || end > 0 && rest[end] == 0:
		s.fault = 22
	default:
		x, _ := binary.Uvarint(rest)
		return int(x), s.at + end + 1
	}
	return 0, s.at
}

func (s *scan) number(least, most int) int {
	x, end := s.anyNumber()
	if s.fault == 0 && (x < least || x > most) {
		s.fault = 22
	}
	if s.fault != 0 {
		return 0
	}
	s.at = end
	return x
}

// head is the number at the head of a text or a list; what it counts has a byte each at least.
func (s *scan) head(most int) (int, int) {
	x, end := s.anyNumber()
	if s.fault == 0 && x > most {
		s.fault = 20
	}
	if s.fault == 0 && x > len(s.b)-end {
		s.fault = 21
	}
	if s.fault != 0 {
		return 0, s.at
	}
	return x, end
}

func (s *scan) text(most int) string {
	n, from := s.head(most)
	if s.fault != 0 {
		return ""
	}
	s.at = from + n
	return string(s.b[from:s.at])
}

func (s *scan) list(most int, one func()) {
	n, from := s.head(most)
	s.at = from
	for range n {
		if s.fault == 0 {
			one()
		}
	}
}

func (s *scan) word() uint64 {
	if s.fault == 0 && len(s.b)-s.at < 8 {
		s.fault = 21
	}
	if s.fault != 0 {
		return 0
	}
	s.at += 8
	return binary.LittleEndian.Uint64(s.b[s.at-8:])
}

func (s *scan) edges() (list []int) {
	s.list(64, func() { list = append(list, s.number(0, 63)) })
	return list
}

func (s *scan) plan() api.Plan {
	p := api.Plan{Name: s.text(40)}
	p.Deadline = s.number(1, delay)
	s.list(64, func() {
		n := api.Node{Name: s.text(40)}
		n.Lane, n.Budget = s.number(0, 15), s.number(1, 100)
		n.Close, n.Beat = s.number(1, delay), s.number(0, delay)
		n.Base, n.Cap, n.Jitter = s.number(1, delay), s.number(1, delay), s.number(0, delay)
		n.Needs, n.After = s.edges(), s.edges()
		p.Nodes = append(p.Nodes, n)
	})
	if _, code := plan.Check(p); s.fault == 0 && code != 0 {
		s.fault = 22
	}
	return p
}

func (s *scan) op() api.Op {
	o := api.Op{Kind: s.number(1, 9)}
	switch o.Kind {
	case 1:
		o.Plan, o.Key = s.plan(), s.text(40)
	case 2:
		o.Lane, o.Worker = s.number(0, 15), s.number(0, delay)
	case 3, 5:
		o.Token = s.number(1, delay)
	case 4:
		o.Token, o.Result = s.number(1, delay), []byte(s.text(64))
	case 6, 7:
		o.Run = s.number(1, delay)
	case 8:
		o.Luck = s.word()
	case 9:
		o.Ticks = s.number(0, late)
	}
	return o
}

// modelTake is what a form of the package takes off the beginning of bytes.
func modelTake[T any](b []byte, one func(*scan) T) (x T, at int, fault api.Errno) {
	s := &scan{b: b}
	if x = one(s); s.fault != 0 {
		x = *new(T)
	}
	return x, s.at, s.fault
}

// used has for each kind which of a part's numbers (see parts) it uses.
var used = map[int][]int{1: {0, 1}, 2: {2, 3}, 3: {4}, 4: {4, 5}, 5: {4}, 6: {6}, 7: {6}, 8: {7}, 9: {8}}

func within(n, least, most int) bool { return n >= least && n <= most }

// modelCheck looks at the nine fields one by one.
func modelCheck(o api.Op) api.Errno {
	set := []bool{o.Plan.Name != "" || o.Plan.Deadline != 0 || len(o.Plan.Nodes) > 0, len(o.Key) > 0, o.Lane != 0, o.Worker != 0, o.Token != 0, len(o.Result) > 0, o.Run != 0, o.Luck != 0, o.Ticks != 0}
	may := []bool{true, len(o.Key) <= 40, within(o.Lane, 0, 15), within(o.Worker, 0, delay), within(o.Token, 1, delay), len(o.Result) <= 64, within(o.Run, 1, delay), true, within(o.Ticks, 0, late)}
	uses, kind := used[o.Kind]
	bad := !kind
	for i := range 9 {
		if slices.Contains(uses, i) {
			bad = bad || !may[i]
		} else {
			bad = bad || set[i]
		}
	}
	if bad {
		return 121
	}
	if _, code := plan.Check(o.Plan); o.Kind == 1 {
		return code
	}
	return 0
}

// Plans and operations to try.

func node(name string, needs, after []int) api.Node {
	return api.Node{Name: name, Budget: 2, Close: 10, Base: 4, Cap: 8, Needs: needs, After: after}
}

func of(nodes ...api.Node) api.Plan { return api.Plan{Name: "p", Deadline: 100, Nodes: nodes} }

// one is the plan p of the examples.
func one() api.Plan { return of(node("a", nil, nil)) }

func submit(p api.Plan, key string) api.Op { return api.Op{Kind: api.OpSubmit, Plan: p, Key: key} }

// plain has so many nodes without an edge.
func plain(nodes int) api.Plan {
	p := of()
	for i := range nodes {
		p.Nodes = append(p.Nodes, node("n"+strconv.Itoa(i), nil, nil))
	}
	return p
}

// copyOf shares nothing with an operation, as far as it holds lists.
func copyOf(o api.Op) api.Op {
	o.Result = slices.Clone(o.Result)
	o.Plan.Nodes = slices.Clone(o.Plan.Nodes)
	for i := range o.Plan.Nodes {
		n := &o.Plan.Nodes[i]
		n.Needs, n.After = slices.Clone(n.Needs), slices.Clone(n.After)
	}
	return o
}

func copyOfPlan(p api.Plan) api.Plan { return copyOf(api.Op{Plan: p}).Plan }

// full makes each list one that is there, so that nil and empty are one.
func full(o api.Op) api.Op {
	o.Result = append([]byte{}, o.Result...)
	nodes := []api.Node{}
	for _, n := range o.Plan.Nodes {
		n.Needs, n.After = append([]int{}, n.Needs...), append([]int{}, n.After...)
		nodes = append(nodes, n)
	}
	o.Plan.Nodes = nodes
	return o
}

func sameOp(a, b api.Op) bool { return reflect.DeepEqual(full(a), full(b)) }

func samePlan(a, b api.Plan) bool { return sameOp(api.Op{Plan: a}, api.Op{Plan: b}) }

// anyCount is as often small as great, and sometimes the greatest.
func anyCount(r *rand.Rand) int {
	if r.Intn(10) == 0 {
		return delay
	}
	return r.Intn(1<<r.Intn(41) + 1)
}

func anySpan(r *rand.Rand) int { return max(1, anyCount(r)) }

const letters = "abcdefghijklmnopqrstuvwxyz0123456789-_."

func anyName(r *rand.Rand) string {
	name := make([]byte, r.Intn(40)+1)
	for i := range name {
		name[i] = letters[r.Intn(len(letters))]
	}
	return string(name)
}

func anyBytes(r *rand.Rand, most int) []byte {
	b := make([]byte, r.Intn(most+1))
	r.Read(b)
	return b
}

// anyPlan is one that may be: its edges lead to nodes that are ahead in a row that chance makes.
func anyPlan(r *rand.Rand, nodes, edges int) api.Plan {
	p := api.Plan{Name: anyName(r), Deadline: anySpan(r)}
	for i := range nodes {
		n := api.Node{Name: anyName(r), Lane: r.Intn(16), Budget: r.Intn(100) + 1, Close: anySpan(r), Beat: anyCount(r), Cap: anySpan(r), Jitter: anyCount(r)}
		for slices.ContainsFunc(p.Nodes, func(o api.Node) bool { return o.Name == n.Name }) {
			n.Name = anyName(r)
		}
		if n.Base = n.Cap; i%2 == 0 {
			n.Base = r.Intn(n.Cap) + 1
		}
		p.Nodes = append(p.Nodes, n)
	}
	row := r.Perm(nodes)
	for range min(edges, 256) {
		if from := r.Intn(nodes); from > 0 {
			lay(p, row[from], row[r.Intn(from)], r.Intn(3) == 0)
		}
	}
	return p
}

// lay puts an edge into one of both lists, where it belongs, unless it is there.
func lay(p api.Plan, from, to int, after bool) {
	n := &p.Nodes[from]
	if slices.Contains(n.Needs, to) || slices.Contains(n.After, to) {
		return
	}
	list := &n.Needs
	if after {
		list = &n.After
	}
	*list = append(*list, to)
	slices.Sort(*list)
}

// someOf is a plan of any size, more often a small one.
func someOf(r *rand.Rand) api.Plan {
	nodes := 1 + r.Intn(1<<r.Intn(7))
	return anyPlan(r, nodes, r.Intn(4*nodes+1))
}

// anyOp is one of that kind that may be.
func anyOp(r *rand.Rand, kind int) api.Op {
	o := api.Op{Kind: kind}
	switch kind {
	case 1:
		o.Plan, o.Key = someOf(r), string(anyBytes(r, 40))
	case 2:
		o.Lane, o.Worker = r.Intn(16), anyCount(r)
	case 3, 5:
		o.Token = anySpan(r)
	case 4:
		o.Token, o.Result = anySpan(r), anyBytes(r, 64)
	case 6, 7:
		o.Run = anySpan(r)
	case 8:
		o.Luck = r.Uint64() >> r.Intn(64)
	case 9:
		o.Ticks = r.Intn(1<<r.Intn(63)) + r.Intn(2)
	}
	return o
}

// greatest is a plan that has as many bytes as any: 41 + 6 + 1, 64 nodes of 41 + 2 + 5 * 6 + 2, and 256 edges.
func greatest() api.Plan {
	long := func(i int) string { return fmt.Sprintf("%040d", i) }
	p := api.Plan{Name: long(0), Deadline: delay}
	for i := range 64 {
		n := api.Node{Name: long(i), Lane: 15, Budget: 100, Close: delay, Beat: delay, Base: delay, Cap: delay, Jitter: delay}
		for to := range min(i, 5) {
			n.Needs = append(n.Needs, to)
		}
		p.Nodes = append(p.Nodes, n)
	}
	edges := 0
	for i := range p.Nodes {
		edges += len(p.Nodes[i].Needs)
		if edges > 256 {
			p.Nodes[i].Needs = p.Nodes[i].Needs[:max(0, 5-edges+256)]
			edges = 256
		}
	}
	return p
}

// wildPlans have fields that may be, each by its form, though the plan may not.
func wildPlans() map[string]api.Plan {
	turned := func(turn func(p *api.Plan)) api.Plan {
		p := of(node("a", nil, nil), node("b", []int{0}, nil), node("c", nil, []int{1}))
		turn(&p)
		return p
	}
	many := plain(64)
	for i := range many.Nodes {
		for to := range min(i, 6) {
			lay(many, i, to, false)
		}
	}
	return map[string]api.Plan{
		"no name":             turned(func(p *api.Plan) { p.Name = "" }),
		"a capital letter":    turned(func(p *api.Plan) { p.Name = "P" }),
		"a byte of no letter": turned(func(p *api.Plan) { p.Name = "\xff" }),
		"no nodes":            of(),
		"no node's name":      turned(func(p *api.Plan) { p.Nodes[1].Name = "" }),
		"one name twice":      turned(func(p *api.Plan) { p.Nodes[2].Name = "a" }),
		"a blank in a name":   turned(func(p *api.Plan) { p.Nodes[2].Name = "a b" }),
		"Cap below Base":      turned(func(p *api.Plan) { p.Nodes[0].Cap = 3 }),
		"an edge to no node":  turned(func(p *api.Plan) { p.Nodes[1].Needs = []int{3} }),
		"an edge to itself":   turned(func(p *api.Plan) { p.Nodes[1].After = []int{1} }),
		"edges that fall":     turned(func(p *api.Plan) { p.Nodes[2].After = []int{1, 0} }),
		"an edge twice":       turned(func(p *api.Plan) { p.Nodes[2].After = []int{1, 1} }),
		"an edge in both":     turned(func(p *api.Plan) { p.Nodes[2].Needs = []int{1} }),
		"a cycle":             turned(func(p *api.Plan) { p.Nodes[0].Needs = []int{2} }),
		"too many edges":      many,
	}
}

// numbers lie about the edges of all that is counted, some with low bits that would be within them.
func numbers() []int {
	return []int{math.MinInt, math.MinInt + 1, -1 << 40, -1 << 32, -1<<32 + 5, -1 << 31, -100, -2, -1, 0, 1, 2, 3, 9, 10, 14, 15, 16, 17, 63, 64, 65,
		100, 101, 127, 128, 129, 255, 256, 257, 1 << 14, 1<<16 + 5, 1<<31 - 1, 1 << 31, 1 << 32, 1<<32 + 5, 1<<35 - 1, 1 << 35, delay - 1, delay, delay + 1, delay + 5, 1 << 41, 1<<41 + 5,
		late - 1, late, late + 1, late + 5, math.MaxInt - 1, math.MaxInt}
}

// someOps are operations of all kinds that may be, so many of each.
func someOps(seed int64, each int) (list []api.Op) {
	r := chance(seed)
	for range each {
		for kind := 1; kind <= 9; kind++ {
			list = append(list, anyOp(r, kind))
		}
	}
	return list
}

func told(x any) string {
	return fmt.Sprintf("%.800s", strings.ToValidUTF8(fmt.Sprintf("%+v", x), "?"))
}

// Each asks the package, and holds the answer against what is wanted.

func wantsPlan(t *testing.T, p api.Plan, want []byte, code api.Errno) {
	t.Helper()
	if b, e := PlanBytes(p); string(b) != string(want) || e != code {
		t.Fatalf("P12.2: PlanBytes(%s): %v, %d; want %v, %d", told(p), b, e, want, code)
	}
}

func wantsOp(t *testing.T, o api.Op, want []byte, code api.Errno) {
	t.Helper()
	if e := Check(o); e != code {
		t.Fatalf("P12.1: Check(%s): %d; want %d", told(o), e, code)
	}
	if b, e := OpBytes(o); string(b) != string(want) || e != code {
		t.Fatalf("P12.2: OpBytes(%s): %v, %d; want %v, %d", told(o), b, e, want, code)
	}
}

// asModel holds both of an operation, and of its plan, against the model.
func asModel(t *testing.T, o api.Op) {
	t.Helper()
	if code := modelCheck(o); code != 0 {
		wantsOp(t, o, nil, code)
	} else {
		wantsOp(t, o, layOp(nil, o), 0)
	}
	if _, code := plan.Check(o.Plan); code != 0 {
		wantsPlan(t, o.Plan, nil, code)
	} else {
		wantsPlan(t, o.Plan, layPlan(nil, o.Plan), 0)
	}
}

// reads holds both ways of reading off bytes against the model: the call, and the form's Take.
func reads[T any](t *testing.T, b []byte, form pack.Form[T], call func([]byte) (T, api.Errno), refused api.Errno, model func(*scan) T, same func(a, b T) bool) {
	t.Helper()
	want, at, fault := modelTake(b, model)
	r := pack.NewReader(b)
	if x := form.Take(r); !same(x, want) || r.At() != at || r.Err() != fault {
		t.Fatalf("P12.4: Take off %v: %s, at %d, %d; want %s, at %d, %d", b, told(x), r.At(), r.Err(), told(want), at, fault)
	}
	code := api.OK
	if fault != 0 || at < len(b) {
		want, code = *new(T), refused
	}
	if x, e := call(b); !same(x, want) || e != code {
		t.Fatalf("P12.3: read of %v: %s, %d; want %s, %d", b, told(x), e, told(want), code)
	}
}

func readsPlan(t *testing.T, b []byte) {
	t.Helper()
	reads(t, b, Plans(), ReadPlan, 120, (*scan).plan, samePlan)
}

func readsOp(t *testing.T, b []byte) {
	t.Helper()
	reads(t, b, Ops(), ReadOp, 121, (*scan).op, sameOp)
}
