package source

import (
	"fmt"
	"math/rand"
	"reflect"
	"slices"
	"strings"
	"testing"
	"unsafe"

	"escapement/api"
	"escapement/plan"
)

// P11.2, whose the memory is, P11.3, and what follows, P11.4 to P11.7.

// P11.2: what is left out, and what is not.
func TestTextParts(t *testing.T) {
	for _, x := range []struct {
		turn func(n *api.Node)
		want string
	}{
		{func(n *api.Node) {}, ""},
		{func(n *api.Node) { n.Beat = 1 }, " beat 1"}, {func(n *api.Node) { n.Beat = 1 << 40 }, " beat 1099511627776"},
		{func(n *api.Node) { n.Cap = 2 }, " backoff 1 to 2"}, {func(n *api.Node) { n.Base, n.Cap = 2, 2 }, " backoff 2 to 2"}, {func(n *api.Node) { n.Base, n.Cap = 4, 8 }, " backoff 4 to 8"}, {func(n *api.Node) { n.Cap = 1 << 40 }, " backoff 1 to 1099511627776"},
		{func(n *api.Node) { n.Jitter = 1 }, " jitter 1"}, {func(n *api.Node) { n.Jitter = 10 }, " jitter 10"},
		{func(n *api.Node) { n.Beat, n.Jitter = 3, 4 }, " beat 3 jitter 4"}, {func(n *api.Node) { n.Beat, n.Cap = 3, 4 }, " beat 3 backoff 1 to 4"}, {func(n *api.Node) { n.Cap, n.Jitter = 3, 4 }, " backoff 1 to 3 jitter 4"},
		{func(n *api.Node) { n.Beat, n.Base, n.Cap, n.Jitter = 2, 4, 8, 3 }, " beat 2 backoff 4 to 8 jitter 3"},
	} {
		line := "node a lane 0 budget 2 close 10" + x.want + "\n"
		wantsText(t, "P11.2", of(with(a(), x.turn)), onePlan+line, api.OK)
		wantsText(t, "P11.2", of(c(), with(a(), x.turn)), onePlan+nodeC+line, api.OK)
	}
	wantsText(t, "P11.2", of(with(a(), func(n *api.Node) { n.Lane, n.Budget, n.Close = 15, 100, 1<<40 })), onePlan+"node a lane 15 budget 100 close 1099511627776\n", api.OK)
	wantsText(t, "P11.2", api.Plan{Name: "-._", Deadline: 1, Nodes: []api.Node{a()}}, "plan -._ deadline 1\n"+nodeA, api.OK)
}

// P11.2: a line of needs, one of after, both, none.
func TestTextEdges(t *testing.T) {
	for _, x := range []struct {
		needs, after []int
		want         string
	}{
		{nil, nil, ""}, {[]int{}, []int{}, ""}, {[]int{0}, nil, "  needs a\n"}, {nil, []int{0}, "  after a\n"}, {[]int{1}, []int{0}, "  needs c\n  after a\n"}, {[]int{0}, []int{1}, "  needs a\n  after c\n"},
		{[]int{0, 1}, nil, "  needs a c\n"}, {[]int{}, []int{0, 1}, "  after a c\n"}, {[]int{0, 3}, []int{1}, "  needs a e\n  after c\n"}, {[]int{3}, []int{0, 1}, "  needs e\n  after a c\n"}, {nil, []int{0, 1, 3}, "  after a c e\n"},
	} {
		d, e := c(), c()
		d.Name, d.Needs, d.After, e.Name = "d", x.needs, x.after, "e"
		wantsText(t, "P11.2", of(a(), c(), d, e), onePlan+nodeA+nodeC+"node d lane 0 budget 1 close 1\n"+x.want+"node e lane 0 budget 1 close 1\n", api.OK)
	}
}

// P11.2: plans that may not be: each of Check's errors.
func TestTextRefused(t *testing.T) {
	many := of()
	for i := range 65 {
		many.Nodes = append(many.Nodes, with(c(), func(n *api.Node) { n.Name = fmt.Sprint(i) }))
	}
	turned := func(turn func(p *api.Plan)) api.Plan {
		p := of(a(), b(), c())
		turn(&p)
		return p
	}
	for _, x := range []struct {
		p    api.Plan
		code api.Errno
	}{
		{api.Plan{}, api.ErrPlanName}, {turned(func(p *api.Plan) { p.Name = "P" }), api.ErrPlanName}, {turned(func(p *api.Plan) { p.Name = "p q" }), api.ErrPlanName}, {turned(func(p *api.Plan) { p.Name = "p\n" }), api.ErrPlanName}, {turned(func(p *api.Plan) { p.Name = strings.Repeat("p", 41) }), api.ErrPlanName},
		{turned(func(p *api.Plan) { p.Deadline = 0 }), api.ErrPlanDeadline}, {turned(func(p *api.Plan) { p.Deadline = 1<<40 + 1 }), api.ErrPlanDeadline}, {turned(func(p *api.Plan) { p.Deadline = -1 }), api.ErrPlanDeadline},
		{of(), api.ErrPlanSize}, {many, api.ErrPlanSize}, {turned(func(p *api.Plan) { p.Nodes[2].Needs = make([]int, 257) }), api.ErrPlanSize},
		{turned(func(p *api.Plan) { p.Nodes[2].Name = "a" }), api.ErrPlanNode}, {turned(func(p *api.Plan) { p.Nodes[0].Name = "" }), api.ErrPlanNode}, {turned(func(p *api.Plan) { p.Nodes[1].Name = "b#" }), api.ErrPlanNode},
		{turned(func(p *api.Plan) { p.Nodes[0].Lane = 16 }), api.ErrPlanField}, {turned(func(p *api.Plan) { p.Nodes[1].Lane = -1 }), api.ErrPlanField}, {turned(func(p *api.Plan) { p.Nodes[2].Base = 0 }), api.ErrPlanField}, {turned(func(p *api.Plan) { p.Nodes[2].Jitter = -1 }), api.ErrPlanField}, {turned(func(p *api.Plan) { p.Nodes[2].Beat = -1 }), api.ErrPlanField},
		{turned(func(p *api.Plan) { p.Nodes[2].Needs = []int{1, 0} }), api.ErrPlanEdge}, {turned(func(p *api.Plan) { p.Nodes[2].Needs = []int{0, 0} }), api.ErrPlanEdge}, {turned(func(p *api.Plan) { p.Nodes[2].After = []int{3} }), api.ErrPlanEdge}, {turned(func(p *api.Plan) { p.Nodes[2].After = []int{-1} }), api.ErrPlanEdge},
		{turned(func(p *api.Plan) { p.Nodes[2].Needs = []int{2} }), api.ErrPlanEdge}, {turned(func(p *api.Plan) { p.Nodes[1].After = []int{0} }), api.ErrPlanEdge}, {turned(func(p *api.Plan) { p.Nodes[0].After = []int{1} }), api.ErrPlanCycle},
		{turned(func(p *api.Plan) { p.Nodes[0].After, p.Deadline, p.Name = []int{1}, 0, "" }), api.ErrPlanName},
	} {
		if _, code := plan.Check(x.p); code != x.code {
			t.Fatalf("Check(%s): %d", told(x.p), code)
		}
		wantsText(t, "P11.2", x.p, "", x.code)
	}
}

// P11.2, P11.4: plans of all sizes, and the greatest.
func TestTextPlans(t *testing.T) {
	r := chance(1)
	for range 1500 {
		p := someOf(r)
		wantsText(t, "P11.2", p, modelText(p), api.OK)
		wantsPlan(t, "P11.4", modelText(p), p)
	}
	p := greatest()
	text, code := Text(p)
	if code != api.OK || text != modelText(p) || len(text) > 65536 || len(text) < 20000 {
		t.Errorf("P11.2: the greatest plan: %d bytes, %d", len(text), code)
	}
	wantsPlan(t, "P11.4", text, p)
	for _, size := range []int{1, 2, 63, 64} {
		p := greatest()
		p.Nodes = p.Nodes[:size]
		wantsText(t, "P11.2", p, modelText(p), api.OK)
		wantsPlan(t, "P11.4", modelText(p), p)
	}
}

// P11.4: lists without numbers are as good as none; words of the forms, and numbers, as names.
func TestBack(t *testing.T) {
	p := planT()
	p.Nodes[0].Needs, p.Nodes[0].After, p.Nodes[1].After = []int{}, []int{}, []int{}
	wantsText(t, "P11.4", p, textT, api.OK)
	wantsPlan(t, "P11.4", textT, p)
	words := strings.Fields("plan node needs after deadline lane budget close beat backoff to jitter 0 1 00 - . _ -1 1.0 a.b")
	p = api.Plan{Name: "needs", Deadline: 1}
	for i, word := range words {
		p.Nodes = append(p.Nodes, with(c(), func(n *api.Node) { n.Name = word }))
		for to := range i {
			lay(p, i, to, (i+to)%3 == 0)
		}
	}
	text, code := Text(p)
	if code != api.OK {
		t.Fatal(code)
	}
	wantsPlan(t, "P11.4", text, p)
}

// bytesAs is a text that lies in bytes that can be written over.
func bytesAs(text string) (string, []byte) {
	room := []byte(text)
	return unsafe.String(unsafe.SliceData(room), len(room)), room
}

func spoilBytes(room []byte) {
	for i := range room {
		room[i] = '!'
	}
}

// P11.3: a text that was read, names of a plan that was written, may be written over: no answer changes.
func TestNothingKept(t *testing.T) {
	for _, want := range []api.Plan{planT(), greatest(), someOf(chance(2))} {
		given, room := bytesAs(modelText(want))
		p, place, code := Parse(given)
		spoilBytes(room)
		if place != 0 || code != api.OK || !plan.Same(p, want) {
			t.Fatalf("P11.3: the plan is %s, %d, %d when its text was written over", told(p), place, code)
		}
		var rooms [][]byte
		kept := func(name string) string {
			text, room := bytesAs(name)
			rooms = append(rooms, room)
			return text
		}
		p = copyOf(want)
		p.Name = kept(p.Name)
		for i := range p.Nodes {
			p.Nodes[i].Name = kept(p.Nodes[i].Name)
		}
		text, code := Text(p)
		for _, room := range rooms {
			spoilBytes(room)
		}
		if text != modelText(want) || code != api.OK {
			t.Fatalf("P11.3: the text is %s, %d when the plan's names were written over", told(text), code)
		}
	}
	for range 3 {
		wantsPlan(t, "P11.3", textT, planT())
		wantsFault(t, "P11.3", textT+"after a", 3, api.ErrPlanEdge)
		wantsText(t, "P11.3", planT(), textT, api.OK)
		wantsText(t, "P11.3", of(), "", api.ErrPlanSize)
	}
}

// roomy is a plan with spare room behind each of its lists.
func roomy(p api.Plan) api.Plan {
	p.Nodes = append(slices.Clone(p.Nodes), api.Node{Name: "spare", Needs: []int{1}})
	for i := range p.Nodes {
		n := &p.Nodes[i]
		n.Needs = append(slices.Clone(n.Needs), 77, 78)[:len(n.Needs)]
		n.After = append(slices.Clone(n.After), 79)[:len(n.After)]
	}
	p.Nodes = p.Nodes[:len(p.Nodes)-1]
	return p
}

// allRoom is a copy of all that a plan's lists have, spare room included.
func allRoom(p api.Plan) any {
	nodes := slices.Clone(p.Nodes[:cap(p.Nodes)])
	for i := range nodes {
		n := &nodes[i]
		n.Needs, n.After = slices.Clone(n.Needs[:cap(n.Needs)]), slices.Clone(n.After[:cap(n.After)])
	}
	return nodes
}

// P11.3: what is handed in is not changed, its spare room neither, whether the plan may be or not.
func TestPlanUnchanged(t *testing.T) {
	r := chance(3)
	for i := range 300 {
		p := someOf(r)
		n := &p.Nodes[r.Intn(len(p.Nodes))]
		switch i % 5 {
		case 0:
			n.Close = 0
		case 1:
			slices.Reverse(n.Needs)
		case 2:
			n.After = append(n.After, n.After...)
		}
		p = roomy(p)
		before := allRoom(p)
		Text(p)
		if after := allRoom(p); !reflect.DeepEqual(before, after) {
			t.Fatalf("P11.3: the plan's room was %s, is %s", told(before), told(after))
		}
	}
}

// P11.3: what is answered is new memory: whoever writes into a list of it, or behind it, changes no other one, and no later answer.
func TestAnswersNew(t *testing.T) {
	want := greatest()
	for i := range want.Nodes {
		for range 3 {
			p, _, _ := Parse(modelText(want))
			if !plan.Same(p, want) {
				t.Fatalf("P11.3: Parse answers %s when an earlier answer was written over", told(p))
			}
			n := &p.Nodes[i]
			for _, list := range [][]int{n.Needs[:cap(n.Needs)], n.After[:cap(n.After)]} {
				for k := range list {
					list[k] = -1
				}
			}
			n.Needs, n.After = want.Nodes[i].Needs, want.Nodes[i].After
			if !plan.Same(p, want) {
				t.Fatalf("P11.3: the lists of node %d are others' too: %s", i, told(p))
			}
			clear(p.Nodes[:cap(p.Nodes)])
		}
	}
	// Nor do the two lists of one node share room.
	p, _, _ := Parse(onePlan + nodeA + nodeC + nodeB + "needs a a a a a\nafter c c c c c\n")
	needs, after := p.Nodes[2].Needs, p.Nodes[2].After
	for i := range needs[:cap(needs)] {
		needs[:cap(needs)][i] = -1
	}
	if !slices.Equal(after, []int{1}) {
		t.Errorf("P11.3: After is %v when Needs was written over", after)
	}
}

// loose writes a plan in one of many ways.
func loose(r *rand.Rand, p api.Plan) string {
	var text strings.Builder
	blanks := func(least int) string {
		var s string
		for range least + r.Intn(2)*r.Intn(3) {
			s += []string{" ", "\t"}[r.Intn(2)]
		}
		return s
	}
	line := func(words ...string) {
		for range r.Intn(3) * r.Intn(2) {
			text.WriteString(blanks(0) + []string{"", "#", "# plan q deadline 1", "#\xff\r", "# # needs a"}[r.Intn(5)] + "\n")
		}
		text.WriteString(blanks(0))
		for i, word := range words {
			if i > 0 {
				text.WriteString(blanks(1))
			}
			text.WriteString(word)
		}
		text.WriteString(blanks(0) + []string{"", "", "#", " # remark", "#\r", " # 1 2 3 #"}[r.Intn(6)] + "\n")
	}
	line("plan", p.Name, "deadline", fmt.Sprint(p.Deadline))
	for _, n := range p.Nodes {
		words := []string{"node", n.Name, "lane", fmt.Sprint(n.Lane), "budget", fmt.Sprint(n.Budget), "close", fmt.Sprint(n.Close)}
		if n.Beat > 0 || r.Intn(3) == 0 {
			words = append(words, "beat", fmt.Sprint(n.Beat))
		}
		if n.Base > 1 || n.Cap > 1 || r.Intn(3) == 0 {
			words = append(words, "backoff", fmt.Sprint(n.Base), "to", fmt.Sprint(n.Cap))
		}
		if n.Jitter > 0 || r.Intn(3) == 0 {
			words = append(words, "jitter", fmt.Sprint(n.Jitter))
		}
		line(words...)
		edges := [2][]int{n.Needs, n.After}
		for _, kind := range r.Perm(2) {
			names := []string{}
			for _, to := range edges[kind] {
				for range 1 + r.Intn(2)*r.Intn(2) {
					names = append(names, p.Nodes[to].Name)
				}
			}
			r.Shuffle(len(names), func(i, j int) { names[i], names[j] = names[j], names[i] })
			if len(names) > 0 {
				line(append([]string{[2]string{"needs", "after"}[kind]}, names...)...)
			}
		}
	}
	s := text.String()
	if r.Intn(2) == 0 {
		s = strings.TrimSuffix(s, "\n")
	}
	return s
}

// small is a plan whose text is no longer than many lines.
func small(r *rand.Rand) api.Plan { return anyPlan(r, 1+r.Intn(6), r.Intn(12)) }

// P11.5: two texts that say one plan have one Text; what Parse tells can be written, and read again.
func TestOneForm(t *testing.T) {
	t.Parallel()
	r := chance(4)
	for range 3000 {
		p := small(r)
		for range 3 {
			text := loose(r, p)
			wantsPlan(t, "P11.1", text, p)
			got, _, _ := Parse(text)
			one, code := Text(got)
			if code != api.OK || one != modelText(p) {
				t.Fatalf("P11.5: Text of Parse(%s): %s, %d; want %s", told(text), told(one), code, told(modelText(p)))
			}
			wantsPlan(t, "P11.5", one, p)
		}
	}
}

// turnLine does something to the words of a line, or to its bytes.
func turnLine(r *rand.Rand, line string, others []string) string {
	words := strings.Split(line, " ")
	at := r.Intn(len(words))
	other := others[r.Intn(len(others))]
	switch r.Intn(6) {
	case 0:
		words = slices.Delete(words, at, at+1)
	case 1:
		words = slices.Insert(words, at, other)
	case 2, 3:
		words[at] = other
	case 4:
		with := r.Intn(len(words))
		words[at], words[with] = words[with], words[at]
	case 5:
		if line != "" {
			raw := []byte(line)
			raw[r.Intn(len(raw))] = " \t\n#0a9z-A\r\xff"[r.Intn(12)]
			return string(raw)
		}
	}
	return strings.Join(words, " ")
}

// spoiled is a text with something turned that may be a fault then.
func spoiled(r *rand.Rand, text string) string {
	others := append(strings.Fields(text), "0", "1", "17", "101", "01", "4611686018427387903", "4611686018427387904", "zz", "A", "needs", "after", "node", "beat", "jitter", "backoff", "to")
	lines := strings.Split(text, "\n")
	for range 1 + r.Intn(3) {
		at, also := r.Intn(len(lines)), r.Intn(len(lines))
		switch r.Intn(8) {
		case 0:
			lines = slices.Insert(lines, at, lines[also])
		case 1:
			lines[at], lines[also] = lines[also], lines[at]
		case 2:
			if len(lines) > 1 {
				lines = slices.Delete(lines, at, at+1)
			}
		default:
			lines[at] = turnLine(r, lines[at], others)
		}
	}
	return strings.Join(lines, "\n")
}

// P11.1, P11.5: texts with a fault or several, beside the model.
func TestSpoiled(t *testing.T) {
	t.Parallel()
	r := chance(5)
	ways := map[api.Errno]int{}
	for i := range 40000 {
		p := small(r)
		text := modelText(p)
		if i%2 == 0 {
			text = loose(r, p)
		}
		text = spoiled(r, text)
		_, code := asModel(t, "P11.1", text)
		ways[code]++
		if code == api.OK {
			p, _, _ := Parse(text)
			wantsText(t, "P11.5", p, modelText(p), api.OK)
			wantsPlan(t, "P11.5", modelText(p), p)
		}
	}
	for _, code := range []api.Errno{api.OK, api.ErrSourceLine, api.ErrSourceName, api.ErrPlanDeadline, api.ErrPlanSize, api.ErrPlanNode, api.ErrPlanField, api.ErrPlanEdge, api.ErrPlanCycle} {
		if ways[code] < 5 {
			t.Errorf("P11.1: %d came %d times: %v", code, ways[code], ways)
		}
	}
}

// firstLines are the first so many lines of a text.
func firstLines(text string, many int) string {
	lines := strings.SplitAfter(text, "\n")
	return strings.Join(lines[:min(many, len(lines))], "")
}

// P11.6: the text cut behind the first line at fault is at fault there too; cut ahead of it, in no line.
func TestFirstLine(t *testing.T) {
	t.Parallel()
	r := chance(6)
	cuts := map[int]int{}
	for range 20000 {
		text := spoiled(r, loose(r, small(r)))
		_, place, code := Parse(text)
		if code != api.ErrSourceLine || place == 0 {
			continue
		}
		cuts[place]++
		wantsFault(t, "P11.6", firstLines(text, place), place, api.ErrSourceLine)
		wantsFault(t, "P11.6", strings.TrimSuffix(firstLines(text, place), "\n"), place, api.ErrSourceLine)
		ahead := firstLines(text, place-1)
		if p, at, code := Parse(ahead); code == api.ErrSourceLine && at > 0 {
			t.Fatalf("P11.6: Parse(%s): %s, %d, %d, though the whole text is at fault in line %d", told(ahead), told(p), at, code, place)
		}
		// Whatever stands behind it, the line is the first at fault.
		wantsFault(t, "P11.6", firstLines(text, place)+"\nwhat\n"+text, place, api.ErrSourceLine)
	}
	if len(cuts) < 10 {
		t.Errorf("P11.6: too few lines were at fault: %v", cuts)
	}
}

// P11.6: each line of a text put wrong.
func TestEachLineWrong(t *testing.T) {
	text := modelText(greatest())
	lines := strings.SplitAfter(text, "\n")
	for i := range lines[:len(lines)-1] {
		turned := slices.Clone(lines)
		turned[i] = "x" + turned[i]
		wantsFault(t, "P11.6", strings.Join(turned, ""), i+1, api.ErrSourceLine)
		wantsFault(t, "P11.6", strings.Join(turned[:i+1], ""), i+1, api.ErrSourceLine)
		if _, place, code := Parse(strings.Join(turned[:i], "")); code == api.ErrSourceLine && (place > 0 || i > 0) {
			t.Fatalf("P11.6: the %d lines ahead: %d, %d", i, place, code)
		}
	}
}

// sameAnswer tells whether a text is answered as another one was, but for the line.
func sameAnswer(t *testing.T, text, turned string, behind int) {
	t.Helper()
	p, place, code := Parse(text)
	if behind > 0 && place >= behind {
		place++
	}
	got, n, e := Parse(turned)
	if n != place || e != code || !plan.Same(got, p) {
		t.Fatalf("P11.7: Parse(%s): %s, %d, %d; but Parse(%s): %s, %d, %d", told(text), told(p), place, code, told(turned), told(got), n, e)
	}
}

// P11.7: a blank more, a remark behind a line, a line that says nothing, at each place of texts with and without faults.
func TestBlanks(t *testing.T) {
	t.Parallel()
	r := chance(7)
	texts := []string{textT, strings.TrimSuffix(textT, "\n"), textT + "after z", textT + "needs a\n" + nodeC, instead(textT, "lane 1", "lane 16"), textT + "after a", several, "", "what", onePlan, "\n", "# x\n" + textT + "#"}
	for range 60 {
		texts = append(texts, loose(r, small(r)), spoiled(r, loose(r, small(r))), modelText(small(r)))
	}
	for _, text := range texts {
		lines := strings.Split(text, "\n")
		for i, line := range lines {
			turned := slices.Clone(lines)
			put := func(other string) {
				turned[i] = other
				sameAnswer(t, text, strings.Join(turned, "\n"), 0)
			}
			for _, blank := range []string{" ", "\t", " \t\t "} {
				put(blank + line)
				put(line + blank)
				for at := range line {
					if line[at] == ' ' || line[at] == '\t' {
						put(line[:at] + blank + line[at:])
					}
				}
				put(strings.ReplaceAll(line, " ", blank))
			}
			for _, remark := range []string{"#", " #", "# plan p deadline 1", " # a # b", "#\r", "\t#\xff\x00"} {
				put(line + remark)
			}
			for _, nothing := range []string{"", " ", "\t \t", "#", "# what", " # node z", "#\r"} {
				sameAnswer(t, text, strings.Join(slices.Insert(slices.Clone(lines), i, nothing), "\n"), i+1)
			}
		}
		for _, nothing := range []string{"\n", "\n\n\n", "\n ", "\n#", "\n\t# what\n"} {
			sameAnswer(t, text, text+nothing, 0)
		}
	}
}

// R1, P11.1: whatever the bytes are, the answer is the model's.
func FuzzParse(f *testing.F) {
	r := chance(8)
	for _, text := range []string{"", textT, several, textT + "after z", "plan p deadline 1\r\n", "\x00\xff\n#", strings.Repeat("plan ", 1000)} {
		f.Add(text)
	}
	for range 40 {
		f.Add(spoiled(r, loose(r, small(r))))
		raw := make([]byte, r.Intn(300))
		r.Read(raw)
		f.Add(string(raw))
	}
	f.Fuzz(func(t *testing.T, text string) { asModel(t, "P11.1", text) })
}

// R1: great texts are answered too: as many lines, nodes, names as there is room for.
func TestGreatTexts(t *testing.T) {
	for _, unit := range []string{"plan p deadline 1\n", "node a lane 0 budget 1 close 1\n", "node a lane 0 budget 1 close 1\nneeds a\nafter a\n", "needs a\n", "a ", "a\n", "\xff", "\t#", "0", "node "} {
		text := onePlan + strings.Repeat(unit, 65536/len(unit)+1)
		asModel(t, "R1", text[:65536])
	}
	// A line of needs with as many names as there is room for, all of one node, may be.
	head := onePlan + nodeA + nodeC + "needs"
	text := head + strings.Repeat(" a", (65536-len(head))/2)
	wantsPlan(t, "P11.1", text, of(a(), with(c(), func(n *api.Node) { n.Needs = []int{0} })))
	wantsFault(t, "P11.1", text[:len(text)-2]+" z", 4, api.ErrSourceName)
}

// R5: texts that are read side by side have nothing to do with each other.
func TestSideBySide(t *testing.T) {
	for seed := range 8 {
		t.Run(fmt.Sprint(seed), func(t *testing.T) {
			t.Parallel()
			r := chance(int64(100 + seed))
			for range 100 {
				p := small(r)
				wantsPlan(t, "R5", loose(r, p), p)
				wantsText(t, "R5", p, modelText(p), api.OK)
			}
		})
	}
}
