package source

import (
	"fmt"
	"math/big"
	"math/rand"
	"reflect"
	"regexp"
	"slices"
	"strings"
	"testing"

	"escapement/api"
	"escapement/plan"
)

func chance(seed int64) *rand.Rand { return rand.New(rand.NewSource(seed)) }

// The model has the chapter's words, one by one: each form is a pattern, and a number is one of any length.

const letters = "abcdefghijklmnopqrstuvwxyz0123456789-_."

// form makes a pattern of a form: NAME and N are what the chapter says, = parts two words.
func form(text string) *regexp.Regexp {
	text = strings.NewReplacer("NAMES", `((?:=[-a-z0-9_.]{1,40})+)`, "NAME", `([-a-z0-9_.]{1,40})`, "N", `(0|[1-9][0-9]*)`).Replace(text)
	return regexp.MustCompile(`\A[ \t]*` + strings.ReplaceAll(text, "=", `[ \t]+`) + `[ \t]*\z`)
}

var forms = map[string]*regexp.Regexp{
	"plan":  form("plan=NAME=deadline=N"),
	"node":  form("node=NAME=lane=N=budget=N=close=N(?:=beat=N)?(?:=backoff=N=to=N)?(?:=jitter=N)?"),
	"needs": form("needsNAMES"),
	"after": form("afterNAMES"),
}

// said is a line that says something.
type said struct {
	place int
	kind  string // "": none of the four
	parts []string
}

// saidBy has the lines of a text that say something.
func saidBy(text string) (all []said) {
	for i, whole := range strings.Split(text, "\n") {
		ahead := whole
		if at := strings.IndexByte(whole, '#'); at >= 0 {
			ahead = whole[:at]
		}
		if strings.Trim(ahead, " \t") == "" {
			continue
		}
		s := said{place: i + 1}
		for kind, pattern := range forms {
			if parts := pattern.FindStringSubmatch(ahead); parts != nil && numbersHold(kind, parts) {
				s.kind, s.parts = kind, parts
			}
		}
		all = append(all, s)
	}
	return all
}

func great(text string) *big.Int {
	n, _ := new(big.Int).SetString(text, 10)
	return n
}

func numbersHold(kind string, parts []string) bool {
	if kind == "needs" || kind == "after" {
		return true
	}
	limit := new(big.Int).Lsh(big.NewInt(1), 62)
	return !slices.ContainsFunc(parts[2:], func(n string) bool { return n != "" && great(n).Cmp(limit) >= 0 })
}

// standsWell tells whether the i-th line stands where it may.
func standsWell(all []said, i int) bool {
	kind := all[i].kind
	if i == 0 || kind == "plan" {
		return i == 0 && kind == "plan"
	}
	if kind == "node" {
		return true
	}
	for back := i - 1; back >= 0; back-- {
		switch all[back].kind {
		case kind:
			return false
		case "node":
			return true
		}
	}
	return false
}

func number(text string, other int) int {
	if text == "" {
		return other
	}
	return int(great(text).Int64())
}

func namesIn(s said) []string {
	return strings.FieldsFunc(s.parts[1], func(r rune) bool { return r == ' ' || r == '\t' })
}

// modelSays is the plan that lines say, the lines of its nodes, and the first line with a name that no node has.
func modelSays(all []said) (p api.Plan, places []int, unknown int) {
	p.Name, p.Deadline = all[0].parts[1], number(all[0].parts[2], 0)
	for _, s := range all {
		if s.kind == "node" {
			x := s.parts
			p.Nodes = append(p.Nodes, api.Node{Name: x[1], Lane: number(x[2], 0), Budget: number(x[3], 0), Close: number(x[4], 0),
				Beat: number(x[5], 0), Base: number(x[6], 1), Cap: number(x[7], 1), Jitter: number(x[8], 0)})
			places = append(places, s.place)
		}
	}
	last := -1
	for _, s := range all {
		switch s.kind {
		case "node":
			last++
		case "needs", "after":
			var list []int
			for i, n := range p.Nodes {
				first := !slices.ContainsFunc(p.Nodes[:i], func(o api.Node) bool { return o.Name == n.Name })
				if first && slices.Contains(namesIn(s), n.Name) {
					list = append(list, i)
				}
			}
			for _, name := range namesIn(s) {
				if unknown == 0 && !slices.ContainsFunc(p.Nodes, func(o api.Node) bool { return o.Name == name }) {
					unknown = s.place
				}
			}
			if s.kind == "needs" {
				p.Nodes[last].Needs = list
			} else {
				p.Nodes[last].After = list
			}
		}
	}
	return p, places, unknown
}

func modelParse(text string) (api.Plan, int, api.Errno) {
	if len(text) > 65536 {
		return api.Plan{}, 0, 110
	}
	all := saidBy(text)
	for i, s := range all {
		if s.kind == "" || !standsWell(all, i) {
			return api.Plan{}, s.place, 111
		}
	}
	if len(all) == 0 {
		return api.Plan{}, 0, 111
	}
	p, places, unknown := modelSays(all)
	if unknown > 0 {
		return api.Plan{}, unknown, 112
	}
	node, code := plan.Check(p)
	switch {
	case code == 0:
		return p, 0, 0
	case node == 0:
		return api.Plan{}, all[0].place, code
	}
	return api.Plan{}, places[node-1], code
}

func modelText(p api.Plan) string {
	text := fmt.Sprintf("plan %s deadline %d\n", p.Name, p.Deadline)
	for _, n := range p.Nodes {
		text += fmt.Sprintf("node %s lane %d budget %d close %d", n.Name, n.Lane, n.Budget, n.Close)
		if n.Beat > 0 {
			text += fmt.Sprintf(" beat %d", n.Beat)
		}
		if [2]int{n.Base, n.Cap} != [2]int{1, 1} {
			text += fmt.Sprintf(" backoff %d to %d", n.Base, n.Cap)
		}
		if n.Jitter > 0 {
			text += fmt.Sprintf(" jitter %d", n.Jitter)
		}
		text += "\n"
		for i, list := range [][]int{n.Needs, n.After} {
			if len(list) > 0 {
				text += "  " + [2]string{"needs", "after"}[i]
				for _, to := range list {
					text += " " + p.Nodes[to].Name
				}
				text += "\n"
			}
		}
	}
	return text
}

// Plans.

// copyOf shares nothing with a plan.
func copyOf(p api.Plan) api.Plan {
	p.Nodes = slices.Clone(p.Nodes)
	for i := range p.Nodes {
		p.Nodes[i].Needs, p.Nodes[i].After = slices.Clone(p.Nodes[i].Needs), slices.Clone(p.Nodes[i].After)
	}
	return p
}

// anyDelay is as often small as great.
func anyDelay(r *rand.Rand) int { return r.Intn(1<<r.Intn(41) + 1) }

func anySpan(r *rand.Rand) int { return max(1, anyDelay(r)) }

// anyName is now and then one of the words that lines are made of.
func anyName(r *rand.Rand) string {
	if words := strings.Fields("plan node needs after deadline lane budget close beat backoff to jitter 0 1 10"); r.Intn(4) == 0 {
		return words[r.Intn(len(words))]
	}
	text := make([]byte, r.Intn(1<<r.Intn(6))%40+1)
	for i := range text {
		text[i] = letters[r.Intn(len(letters))]
	}
	return string(text)
}

// lay puts an edge into one of both lists, where it belongs, unless it is there.
func lay(p api.Plan, from, to int, after bool) {
	n := &p.Nodes[from]
	if slices.Contains(n.Needs, to) || slices.Contains(n.After, to) {
		return
	}
	list := &n.Needs
	if after {
		list = &n.After
	}
	*list = append(*list, to)
	slices.Sort(*list)
}

// anyPlan is one that may be: its edges lead to nodes that are ahead in a row that chance makes.
func anyPlan(r *rand.Rand, nodes, edges int) api.Plan {
	p := api.Plan{Name: anyName(r), Deadline: anySpan(r)}
	names := map[string]bool{}
	for range nodes {
		n := api.Node{Name: anyName(r), Lane: r.Intn(16), Budget: r.Intn(100) + 1, Close: anySpan(r), Base: 1, Cap: 1}
		for names[n.Name] {
			n.Name = anyName(r)
		}
		names[n.Name] = true
		if r.Intn(2) == 0 {
			n.Beat = anyDelay(r)
		}
		if r.Intn(2) == 0 {
			n.Cap = anySpan(r)
			n.Base = min(n.Cap, anySpan(r))
		}
		if r.Intn(2) == 0 {
			n.Jitter = anyDelay(r)
		}
		p.Nodes = append(p.Nodes, n)
	}
	row := r.Perm(nodes)
	for range min(edges, 256) {
		if from := r.Intn(nodes); from > 0 {
			lay(p, row[from], row[r.Intn(from)], r.Intn(3) == 0)
		}
	}
	return p
}

// someOf is a plan of any size, more often a small one.
func someOf(r *rand.Rand) api.Plan {
	nodes := 1 + r.Intn(1<<r.Intn(7))
	return anyPlan(r, nodes, r.Intn(4*nodes+1))
}

// greatest is a plan whose text is as long as one can be.
func greatest() api.Plan {
	name := func(i int) string { return strings.Repeat("x", 38) + fmt.Sprintf("%02d", i) }
	p := api.Plan{Name: name(99), Deadline: 1 << 40}
	for i := range 64 {
		p.Nodes = append(p.Nodes, api.Node{Name: name(i), Lane: 15, Budget: 100, Close: 1 << 40, Beat: 1 << 40, Base: 1 << 40, Cap: 1 << 40, Jitter: 1 << 40})
	}
	for i := range 256 {
		lay(p, 8+i%56, i/56, i/56%2 == 0)
	}
	return p
}

// told is a plan, or a text, in few words.
func told(p any) string {
	text := fmt.Sprintf("%+v", p)
	if s, ok := p.(string); ok {
		text = fmt.Sprintf("%d bytes %q", len(s), s)
	}
	if len(text) > 1500 {
		text = text[:1500] + " .."
	}
	return text
}

// Each asks the package, and holds the answer against what is wanted.

func wantsPlan(t *testing.T, promise, text string, want api.Plan) {
	t.Helper()
	p, place, code := Parse(text)
	if place != 0 || code != api.OK || !plan.Same(p, want) {
		t.Fatalf("%s: Parse(%s): %s, %d, %d; want %s", promise, told(text), told(p), place, code, told(want))
	}
}

func wantsFault(t *testing.T, promise, text string, place int, code api.Errno) {
	t.Helper()
	p, n, e := Parse(text)
	if n != place || e != code || !reflect.DeepEqual(p, api.Plan{}) {
		t.Fatalf("%s: Parse(%s): %s, %d, %d; want nothing, %d, %d", promise, told(text), told(p), n, e, place, code)
	}
}

func wantsText(t *testing.T, promise string, p api.Plan, want string, code api.Errno) {
	t.Helper()
	if text, e := Text(p); text != want || e != code {
		t.Fatalf("%s: Text(%s): %s, %d; want %s, %d", promise, told(p), told(text), e, told(want), code)
	}
}

// asModel holds Parse against the model, and tells what came.
func asModel(t *testing.T, promise, text string) (int, api.Errno) {
	t.Helper()
	p, place, code := modelParse(text)
	if code == api.OK {
		wantsPlan(t, promise, text, p)
	} else {
		wantsFault(t, promise, text, place, code)
	}
	return place, code
}
