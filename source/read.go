package source

import (
	"slices"
	"strings"

	"escapement/api"
	"escapement/plan"
)

// The kinds of edges.
const (
	needs = iota
	after
	kinds
)

// mention is a line of needs or after. Its names wait till all nodes are known, since one may mean a later node.
type mention struct {
	place int
	node  int
	kind  int
	names []string
}

// draft is a plan that is being read, and where its parts stand.
type draft struct {
	plan     api.Plan
	place    int         // of the plan's line; 0: it has not come
	places   []int       // of the nodes' lines
	had      [kinds]bool // which kinds of edges the last node has had
	mentions []mention
}

// doers have, by a line's first word, what the line does; each tells whether it is of its form and stands where it may.
func doers() map[string]func(d *draft, l *line) bool {
	return map[string]func(d *draft, l *line) bool{
		"plan":  (*draft).begin,
		"node":  (*draft).addNode,
		"needs": func(d *draft, l *line) bool { return d.addMention(l, needs) },
		"after": func(d *draft, l *line) bool { return d.addMention(l, after) },
	}
}

// read goes through all lines ahead of asking what the names mean, and through all names ahead of asking whether the plan may be.
func read(text string) (api.Plan, error) {
	if len(text) > api.MaxSource {
		return api.Plan{}, &fault{0, api.ErrSourceLong}
	}
	d := new(draft)
	if err := d.readLines(text); err != nil {
		return api.Plan{}, err
	}
	if err := d.layEdges(); err != nil {
		return api.Plan{}, err
	}
	if err := d.check(); err != nil {
		return api.Plan{}, err
	}
	return d.plan, nil
}

func (d *draft) readLines(text string) error {
	does := doers()
	for i, piece := range strings.Split(text, "\n") {
		l := lineOf(piece, i+1)
		first := l.take()
		if first == "" {
			continue
		}
		do := does[first]
		if do == nil || !do(d, l) {
			return &fault{l.place, api.ErrSourceLine}
		}
	}
	if d.place == 0 {
		return &fault{0, api.ErrSourceLine}
	}
	return nil
}

func (d *draft) begin(l *line) bool {
	name := l.name()
	deadline := l.number("deadline")
	if !l.fits() || d.place != 0 {
		return false
	}
	d.plan.Name, d.plan.Deadline, d.place = name, deadline, l.place
	return true
}

func (d *draft) addNode(l *line) bool {
	n := api.Node{Name: l.name(), Base: 1, Cap: 1}
	n.Lane = l.number("lane")
	n.Budget = l.number("budget")
	n.Close = l.number("close")
	if l.next() == "beat" {
		n.Beat = l.number("beat")
	}
	if l.next() == "backoff" {
		n.Base = l.number("backoff")
		n.Cap = l.number("to")
	}
	if l.next() == "jitter" {
		n.Jitter = l.number("jitter")
	}
	if !l.fits() || d.place == 0 {
		return false
	}
	d.plan.Nodes = append(d.plan.Nodes, n)
	d.places = append(d.places, l.place)
	d.had = [kinds]bool{}
	return true
}

func (d *draft) addMention(l *line, kind int) bool {
	isNone := func(word string) bool { return !isName(word) }
	last := len(d.plan.Nodes) - 1
	if last < 0 || d.had[kind] || len(l.rest) == 0 || slices.ContainsFunc(l.rest, isNone) {
		return false
	}
	d.had[kind] = true
	d.mentions = append(d.mentions, mention{l.place, last, kind, l.rest})
	return true
}

func (d *draft) layEdges() error {
	bearers := firstBearers(d.plan.Nodes)
	for _, m := range d.mentions {
		list, ok := numbersOf(m.names, bearers)
		if !ok {
			return &fault{m.place, api.ErrSourceName}
		}
		n := &d.plan.Nodes[m.node]
		switch m.kind {
		case needs:
			n.Needs = list
		case after:
			n.After = list
		}
	}
	return nil
}

func firstBearers(nodes []api.Node) map[string]int {
	bearers := make(map[string]int, len(nodes))
	for i, n := range nodes {
		if _, borne := bearers[n.Name]; !borne {
			bearers[n.Name] = i
		}
	}
	return bearers
}

// numbersOf are the nodes that bear the names, rising, each once; false, if a name is nobody's.
func numbersOf(names []string, bearers map[string]int) ([]int, bool) {
	list := make([]int, 0, len(names))
	for _, name := range names {
		node, ok := bearers[name]
		if !ok {
			return nil, false
		}
		list = append(list, node)
	}
	slices.Sort(list)
	return slices.Compact(list), true
}

func (d *draft) check() error {
	node, code := plan.Check(d.plan)
	switch {
	case code == api.OK:
		return nil
	case node == 0:
		return &fault{d.place, code}
	}
	return &fault{d.places[node-1], code}
}
