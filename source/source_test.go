package source

import (
	"fmt"
	"math/bits"
	"slices"
	"strings"
	"testing"

	"escapement/api"
)

// The chapter's text T, and the plan that it says.
const (
	onePlan = "plan p deadline 100\n"
	nodeA   = "node a lane 0 budget 2 close 10\n"
	nodeB   = "node b lane 1 budget 1 close 5 beat 2 backoff 4 to 8 jitter 3\n"
	nodeC   = "node c lane 0 budget 1 close 1\n"
	textT   = onePlan + nodeA + nodeB + "  needs a\n"
)

func a() api.Node { return api.Node{Name: "a", Budget: 2, Close: 10, Base: 1, Cap: 1} }

func b() api.Node {
	return api.Node{Name: "b", Lane: 1, Budget: 1, Close: 5, Beat: 2, Base: 4, Cap: 8, Jitter: 3, Needs: []int{0}}
}

func c() api.Node { return api.Node{Name: "c", Budget: 1, Close: 1, Base: 1, Cap: 1} }

func of(nodes ...api.Node) api.Plan { return api.Plan{Name: "p", Deadline: 100, Nodes: nodes} }

func planT() api.Plan { return of(a(), b()) }

func with(n api.Node, turn func(n *api.Node)) api.Node {
	turn(&n)
	return n
}

// instead puts a text at the place of another one that must be there.
func instead(text, old, new string) string {
	if strings.Count(text, old) != 1 {
		panic(old + " does not stand once in " + text)
	}
	return strings.Replace(text, old, new, 1)
}

// The chapter's examples, row by row.
func TestExamples(t *testing.T) {
	wantsPlan(t, "examples", textT, planT())
	wantsPlan(t, "examples", "\n"+onePlan+strings.TrimSuffix(nodeA, "\n")+" # a remark\n"+nodeB+"  needs a", planT())
	wantsFault(t, "examples", "", 0, api.ErrSourceLine)
	wantsFault(t, "examples", "# only a remark", 0, api.ErrSourceLine)
	wantsFault(t, "examples", "node a lane 0 budget 1 close 1", 1, api.ErrSourceLine)
	wantsFault(t, "examples", textT+"plan q deadline 5", 5, api.ErrSourceLine)
	wantsFault(t, "examples", textT+"needs a", 5, api.ErrSourceLine)
	wantsFault(t, "examples", textT+"after a", 3, api.ErrPlanEdge)
	for _, text := range []string{"plan p deadline 0100", "plan P deadline 1", "plan p deadline", "plan p deadline 4611686018427387904"} {
		wantsFault(t, "examples", text, 1, api.ErrSourceLine)
	}
	wantsFault(t, "examples", textT+"node c lane 0 budget 1 close 1 jitter 1 beat 1", 5, api.ErrSourceLine)
	wantsFault(t, "examples", textT+"after c", 5, api.ErrSourceName)
	wantsFault(t, "examples", textT+"after z\nwhat", 6, api.ErrSourceLine)
	wantsFault(t, "examples", "plan p deadline 100", 1, api.ErrPlanSize)
	wantsFault(t, "examples", instead(textT, "deadline 100", "deadline 0"), 1, api.ErrPlanDeadline)
	wantsFault(t, "examples", instead(textT, "lane 1", "lane 16"), 3, api.ErrPlanField)
	wantsFault(t, "examples", textT+"node a lane 0 budget 1 close 1", 5, api.ErrPlanNode)
	wantsPlan(t, "examples", textT+"node c lane 0 budget 1 close 1\nafter b a b a",
		of(a(), b(), with(c(), func(n *api.Node) { n.After = []int{0, 1} })))
	wantsFault(t, "examples", strings.Repeat(" ", 65537), 0, api.ErrSourceLong)
	wantsText(t, "examples", planT(), textT, api.OK)
}

// P11.1: texts of MaxSource bytes and of one more, whatever the bytes are, and whatever else is wrong.
func TestParseLong(t *testing.T) {
	for _, unit := range []string{" ", "\t", "\n", "#", " #", "\n\t# remark"} {
		fill := strings.Repeat(unit, 65536)[:65536-len(textT)]
		wantsPlan(t, "P11.1", textT+fill, planT())
		wantsPlan(t, "P11.1", strings.TrimSuffix(textT, "\n")+" "+fill, planT())
		wantsFault(t, "P11.1", strings.TrimSuffix(textT, "\n")+" "+fill+" ", 0, api.ErrSourceLong)
		wantsFault(t, "P11.1", textT+fill+"\n", 0, api.ErrSourceLong)
	}
	for _, text := range []string{"", "what\n", "plan p deadline 100\n", textT + "after z\n", instead(textT, "lane 1", "lane 16"), "plan P deadline 1\n"} {
		place, code := asModel(t, "P11.1", text+strings.Repeat(" ", 65536-len(text)))
		wantsFault(t, "P11.1", text, place, code)
		for _, more := range []int{1, 2, 256, 65536, 1 << 20} {
			wantsFault(t, "P11.1", text+strings.Repeat(" ", 65536-len(text)+more), 0, api.ErrSourceLong)
			wantsFault(t, "P11.1", text+strings.Repeat("\n", 65536-len(text)+more), 0, api.ErrSourceLong)
		}
	}
	wantsFault(t, "P11.1", strings.Repeat("\n", 65536), 0, api.ErrSourceLine)
	wantsFault(t, "P11.1", strings.Repeat("\n", 65535)+"x", 65536, api.ErrSourceLine)
	wantsFault(t, "P11.1", strings.Repeat("x", 65536), 1, api.ErrSourceLine)
	wantsFault(t, "P11.1", strings.Repeat("x", 65537), 0, api.ErrSourceLong)
}

// P11.1: no line says something.
func TestParseNothing(t *testing.T) {
	for _, text := range []string{"", " ", "\t", "\n", "\n\n\n", " \t \n\t", "#", "##", "# plan p deadline 1", "#" + textT[:19], " #\n\t# x\n\n#\xff", "#\r", "#\x00"} {
		wantsFault(t, "P11.1", text, 0, api.ErrSourceLine)
	}
}

// P11.1: a node's line with and without what may be left out, in each order and each number of times.
func TestParseParts(t *testing.T) {
	parts := []string{" beat 2", " backoff 4 to 8", " jitter 3"}
	put := func(n *api.Node, part int) {
		switch part {
		case 0:
			n.Beat = 2
		case 1:
			n.Base, n.Cap = 4, 8
		case 2:
			n.Jitter = 3
		}
	}
	rows := [][]int{nil}
	for i := 0; len(rows[i]) < 4; i++ {
		for part := range parts {
			rows = append(rows, append(slices.Clone(rows[i]), part))
		}
	}
	fit := 0
	for _, row := range rows {
		line, n := "node a lane 0 budget 2 close 10", a()
		rises := true
		for i, part := range row {
			line += parts[part]
			put(&n, part)
			rises = rises && (i == 0 || part > row[i-1])
		}
		if !rises {
			wantsFault(t, "P11.1", onePlan+nodeC+line, 3, api.ErrSourceLine)
			continue
		}
		fit++
		wantsPlan(t, "P11.1", onePlan+line, of(n))
		wantsPlan(t, "P11.1", onePlan+nodeC+line+"\n", of(c(), n))
	}
	if fit != 8 || len(rows) < 120 {
		t.Errorf("P11.1: %d of %d rows fit", fit, len(rows))
	}
	// What is left out is as good as its number: each may be written out.
	wantsPlan(t, "P11.1", onePlan+"node a lane 0 budget 2 close 10 beat 0 backoff 1 to 1 jitter 0", of(a()))
}

// otherwise has words that are not this one, some of them near to it.
func otherwise(word string) []string {
	return []string{strings.ToUpper(word), word + "s", word[1:], word + ":", "'" + word, word + "\x00", word + "\u00a0", "\ufeff" + word, "x", "0", "to", "lane", "deadline", "=", "X", "é", "\xff", "\r", ","}
}

// P11.1: each word of each form left out, doubled, put at the place of another one, put behind all, put ahead of all, written otherwise.
func TestParseWords(t *testing.T) {
	for _, x := range []struct {
		line string
		fits []int // how many of its words are a line too
	}{
		{"plan p deadline 100", nil}, {"node b lane 1 budget 1 close 5 beat 2 backoff 4 to 8 jitter 3", []int{8, 10, 14}}, {"node b lane 0 budget 2 close 10", nil},
		{"needs a c", []int{2}}, {"after a c", []int{2}}, {"needs a", nil}, {"after c", nil},
	} {
		lines := []string{"plan p deadline 100", "node a lane 0 budget 2 close 10", "node c lane 0 budget 1 close 1", "node d lane 0 budget 1 close 1"}
		place := 5
		if strings.HasPrefix(x.line, "plan") {
			lines, place = lines[1:], 1
		}
		whole := func(words ...string) string {
			return strings.Join(slices.Insert(slices.Clone(lines), place-1, strings.Join(words, " ")), "\n")
		}
		words := strings.Fields(x.line)
		asModel(t, "P11.1", whole(words...))
		for i := range words {
			if i > 0 && !slices.Contains(x.fits, i) {
				wantsFault(t, "P11.1", whole(words[:i]...), place, api.ErrSourceLine)
			}
			for _, other := range slices.Concat(words, otherwise(words[i])) {
				turned := slices.Clone(words)
				turned[i] = other
				asModel(t, "P11.1", whole(turned...))
				asModel(t, "P11.1", whole(slices.Insert(slices.Clone(words), i, other)...))
				asModel(t, "P11.1", whole(append(slices.Clone(words), other)...))
			}
			asModel(t, "P11.1", whole(words[:i]...))
			asModel(t, "P11.1", whole(slices.Delete(slices.Clone(words), i, i+1)...))
		}
	}
	for _, line := range []string{"what", "Plan p deadline 1", "PLAN p deadline 1", "nodes a lane 0 budget 1 close 1", "need a", "need", "Needs a", "afters a", "needs", "after", "node", "node d", "plan", "plan p",
		"node d lane 0 budget 1 close 1 beat", "node d lane 0 budget 1 close 1 backoff", "node d lane 0 budget 1 close 1 backoff 1", "node d lane 0 budget 1 close 1 backoff 1 to", "node d lane 0 budget 1 close 1 backoff 1 2",
		"node d lane 0 budget 1 close 1 jitter", "node d lane 0 close 1 budget 1", "node d budget 1 lane 0 close 1", "node lane 0 budget 1 close 1", "node d lane 0 budget 1 close 1 x", "node d lane 0 budget 1 close 1 1",
		"node d lane 0 budget 1 close 1 to 2", "node d lane 0 budget 1 close 1 backoff 1 to 2 to 3", "node d lane=0 budget 1 close 1", "node d lane 0, budget 1 close 1", "d lane 0 budget 1 close 1", "0", "a", "-", "needs a, c", "needs a,c", "after A", "after a B",
		"after a é", "needs: a", "needs\ra", "needs\u00a0a", "after a \r", "plan: p deadline 1", "\xef\xbb\xbfnode d lane 0 budget 1 close 1", "\x00", "\r", "\v", "\f", "\u0085", "\u2028"} {
		wantsFault(t, "P11.1", onePlan+nodeA+nodeC+line+"\n", 4, api.ErrSourceLine)
	}
	// The words of the forms are names too.
	wantsPlan(t, "P11.1", "plan plan deadline 1\nnode node lane 1 budget 1 close 1\nneeds needs after\nnode needs lane 2 budget 1 close 1\nnode after lane 3 budget 1 close 1\nafter needs\nnode lane lane 4 budget 1 close 1\nnode 0 lane 5 budget 1 close 1\nafter lane node\n",
		api.Plan{Name: "plan", Deadline: 1, Nodes: []api.Node{
			{Name: "node", Lane: 1, Budget: 1, Close: 1, Base: 1, Cap: 1, Needs: []int{1, 2}}, {Name: "needs", Lane: 2, Budget: 1, Close: 1, Base: 1, Cap: 1},
			{Name: "after", Lane: 3, Budget: 1, Close: 1, Base: 1, Cap: 1, After: []int{1}}, {Name: "lane", Lane: 4, Budget: 1, Close: 1, Base: 1, Cap: 1},
			{Name: "0", Lane: 5, Budget: 1, Close: 1, Base: 1, Cap: 1, After: []int{0, 3}}}})
}

// P11.1: which bytes are blanks, end a line, begin a remark: each byte, at each place of a line.
func TestParseBytes(t *testing.T) {
	for i := range 256 {
		c := string([]byte{byte(i)})
		blank := c == " " || c == "\t"
		for _, text := range []string{instead(textT, "node a", "node"+c+"a"), instead(textT, "node b", "node "+c+" b"), instead(textT, "plan", c+"plan"), instead(textT, "jitter 3", "jitter 3"+c),
			instead(textT, "  needs", c+" needs"), instead(textT, "needs a\n", "needs a "+c), instead(textT, "p deadline", "p"+c+"deadline"), instead(textT, "to 8", "to"+c+"8"), textT + c, c + textT, textT + " " + c + " ", textT + c + "\n\n"} {
			place, code := asModel(t, "P11.1", text)
			if blank && (place != 0 || code != api.OK) {
				t.Errorf("P11.1: a blank %q is none: %d, %d", c, place, code)
			}
		}
		if !blank && c != "\n" && c != "#" {
			wantsFault(t, "P11.1", textT+c+"\n\n", 5, api.ErrSourceLine)
			wantsFault(t, "P11.1", textT+" "+c, 5, api.ErrSourceLine)
			wantsFault(t, "P11.1", instead(textT, "to 8", "to"+c+"8"), 3, api.ErrSourceLine)
			wantsFault(t, "P11.1", instead(textT, "p deadline", "p"+c+"deadline"), 1, api.ErrSourceLine)
			wantsFault(t, "P11.1", instead(textT, "close 10", "close 10 "+c), 2, api.ErrSourceLine)
		}
		if c != "\n" {
			wantsPlan(t, "P11.1", textT+"#"+c+"\n", planT())
			wantsPlan(t, "P11.1", instead(textT, "close 10", "close 10#"+c+"1"), planT())
		}
	}
	wantsFault(t, "P11.1", instead(textT, "100\n", "100\r\n"), 1, api.ErrSourceLine)
	wantsPlan(t, "P11.1", strings.ReplaceAll(textT, "\n", " #\r\n"), planT())
	wantsFault(t, "P11.1", instead(textT, "node a", "node #a"), 2, api.ErrSourceLine)
	wantsFault(t, "P11.1", instead(textT, "plan p", "plan p#"), 1, api.ErrSourceLine)
	wantsFault(t, "P11.1", strings.ReplaceAll(textT, "\n", " "), 1, api.ErrSourceLine)
}

// names has texts without blanks, line ends and remarks, and whether each is a name: of each length, and with each byte as the first, in the middle and the last.
func names() map[string]bool {
	all := map[string]bool{letters: true, "aé": false, "ä": false, "ａ": false, "٣": false, "ª": false, "a,b": false, "a/b": false, "-": true, "_": true, ".": true, "..": true, "0": true, "01": true, "-1": true, "1.0": true}
	for length := 1; length < 100; length++ {
		all[strings.Repeat("z", length)] = length <= 40
		all[strings.Repeat("é", length)] = false
	}
	all[strings.Repeat("x", 40+256)] = false
	all[strings.Repeat("x", 1<<14+1)] = false
	for b := range 256 {
		c := string([]byte{byte(b)})
		if strings.Contains(" \t\n#", c) {
			continue
		}
		is := strings.Contains(letters, c)
		for _, text := range []string{c, c + "bc", "a" + c + "c", "ab" + c, strings.Repeat("x", 39) + c} {
			all[text] = is
		}
		all[strings.Repeat("x", 40)+c] = false
	}
	return all
}

// P11.1: what a name may be: a plan's, a node's, the only, a middle and the last one of a line of needs or after.
func TestParseNames(t *testing.T) {
	for name, is := range names() {
		texts := []string{
			"plan " + name + " deadline 1\nnode qq lane 0 budget 1 close 1",
			onePlan + "node " + name + " lane 0 budget 1 close 1",
			onePlan + "node qq lane 0 budget 1 close 1\nneeds " + name + "\nnode " + name + " lane 0 budget 1 close 1",
			onePlan + "node qq lane 0 budget 1 close 1\nafter " + name + " rr\nnode " + name + " lane 0 budget 1 close 1\nnode rr lane 0 budget 1 close 1",
			onePlan + "node rr lane 0 budget 1 close 1\nnode qq lane 0 budget 1 close 1\nafter rr " + name + "\nnode " + name + " lane 0 budget 1 close 1",
		}
		for i, place := range []int{1, 2, 3, 3, 4} {
			if !is {
				wantsFault(t, "P11.1", texts[i], place, api.ErrSourceLine)
				continue
			}
			if _, code := asModel(t, "P11.1", texts[i]); code != api.OK {
				t.Fatalf("P11.1: %q is a name: %d", name, code)
			}
		}
		if is {
			wantsFault(t, "P11.1", onePlan+"node qq lane 0 budget 1 close 1\nneeds qq "+name, 3, api.ErrSourceName)
		} else {
			wantsFault(t, "P11.1", onePlan+"node qq lane 0 budget 1 close 1\nneeds qq "+name, 3, api.ErrSourceLine)
		}
	}
}

// noNumbers are words that are none, many of them near to one.
func noNumbers() []string {
	return []string{"00", "01", "000", "007", "0100", "00000000000000000000000000000001", "-0", "-1", "+0", "+1", "1_0", "1,0", "1.", ".1", "1.0", "1e1", "0x1", "0b1", "0o1", "1a", "a1", "a", "-", "+", "_", "'1'", "١", "１", "1１", "１1", "²", "1\xff", "\xff1", "1\x00", "1\r", "1\u00a0", "½", ":", "/", "1:", "1/",
		"4611686018427387904", "4611686018427387905", "4611686018427387910", "4611686018427387999", "5000000000000000000", "9223372036854775807", "9223372036854775808", "9223372036854775809", "9999999999999999999", "10000000000000000000", "46116860184273879030",
		"18446744073709551615", "18446744073709551616", "18446744073709551617", "18446744073709551626", "36893488147419103233", "184467440737095516161", "340282366920938463463374607431768211457", "1" + strings.Repeat("0", 64), strings.Repeat("9", 1000), "1" + strings.Repeat("0", 30000)}
}

// P11.1: each number of each form, at and beyond its limits.
func TestParseNumbers(t *testing.T) {
	for _, part := range []string{"deadline 100", "lane 0", "budget 2", "close 10", "lane 1", "budget 1", "close 5", "beat 2", "backoff 4", "to 8", "jitter 3"} {
		word, _, _ := strings.Cut(part, " ")
		at := strings.Count(textT[:strings.Index(textT, part)], "\n") + 1
		text := func(number string) string { return instead(textT, part, word+" "+number) }
		for _, number := range noNumbers() {
			wantsFault(t, "P11.1", text(number), at, api.ErrSourceLine)
		}
		for _, number := range []string{"0", "1", "2", "3", "4", "5", "7", "8", "9", "10", "11", "15", "16", "17", "99", "100", "101", "255", "256", "257", "1000000", "4294967295", "4294967296", "4294967297",
			"1099511627775", "1099511627776", "1099511627777", "1099511627778", "2199023255552", "1000000000000000000", "4000000000000000000", "4611686018427387899", "4611686018427387900", "4611686018427387902", "4611686018427387903"} {
			if _, code := asModel(t, "P11.1", text(number)); code == api.ErrSourceLine {
				t.Fatalf("P11.1: %s is a number", number)
			}
		}
		wrong := api.ErrPlanField
		if at == 1 {
			wrong = api.ErrPlanDeadline
		}
		wantsFault(t, "P11.1", text("4611686018427387903"), at, wrong)
	}
	most := api.Node{Name: "a", Lane: 15, Budget: 100, Close: 1 << 40, Beat: 1<<40 - 1, Base: 1<<40 - 2, Cap: 1 << 40, Jitter: 1 << 40}
	wantsPlan(t, "P11.1", "plan p deadline 1099511627776\nnode a lane 15 budget 100 close 1099511627776 beat 1099511627775 backoff 1099511627774 to 1099511627776 jitter 1099511627776\n", api.Plan{Name: "p", Deadline: 1 << 40, Nodes: []api.Node{most}})
}

// P11.1: where lines may stand: all rows of six lines of the four forms, one that says nothing and one that is none.
func TestParsePlaces(t *testing.T) {
	t.Parallel()
	lines := []string{"plan p deadline 100", "node a lane 0 budget 1 close 1", "node b lane 0 budget 1 close 1", "needs a", "after b", "#"}
	ways := map[api.Errno]int{}
	for length := range 7 {
		rows := 1
		for range length {
			rows *= len(lines)
		}
		for row := range rows {
			var text string
			for range length {
				text += lines[row%len(lines)] + "\n"
				row /= len(lines)
			}
			_, code := asModel(t, "P11.1", text)
			ways[code]++
		}
	}
	for _, code := range []api.Errno{api.OK, api.ErrSourceLine, api.ErrSourceName, api.ErrPlanSize, api.ErrPlanNode, api.ErrPlanEdge, api.ErrPlanCycle} {
		if ways[code] == 0 {
			t.Errorf("P11.1: no row tells %d: %v", code, ways)
		}
	}
	for _, x := range []struct {
		text  string
		place int
	}{
		{"needs a\n", 1}, {"after a\n", 1}, {nodeA + onePlan, 1}, {onePlan + onePlan, 2}, {onePlan + nodeA + onePlan, 3}, {onePlan + "needs a\n" + nodeA, 2}, {onePlan + "after a\n" + nodeA, 2},
		{onePlan + nodeA + nodeC + "needs a\nneeds a\n", 5}, {onePlan + nodeA + nodeC + "after a\nafter b\n", 5}, {onePlan + nodeA + nodeB + "needs a\nafter a\nneeds a\n", 6}, {onePlan + nodeA + nodeB + "after a\nneeds a\nafter a\n", 6},
		{onePlan + nodeA + nodeC + "needs a\n\n#\n" + nodeB + "needs c\nneeds a\n", 9}, {"\n#\n\n" + nodeA, 4},
	} {
		wantsFault(t, "P11.1", x.text, x.place, api.ErrSourceLine)
	}
	both := of(a(), with(c(), func(n *api.Node) { n.Needs, n.After = []int{0}, []int{2} }), with(b(), func(n *api.Node) { n.Needs, n.After = nil, []int{0} }))
	wantsPlan(t, "P11.1", onePlan+nodeA+nodeC+"needs a\nafter b\n"+nodeB+"after a\n", both)
	wantsPlan(t, "P11.1", onePlan+"\n"+nodeA+"#\n"+nodeC+"after b\n\nneeds a\n"+nodeB+" \nafter a", both)
}

// P11.1: the first line with a name that no node has, in whichever of a node's lines, at whichever place of it.
func TestParseUnknown(t *testing.T) {
	for _, x := range []struct {
		text  string
		place int
	}{
		{onePlan + nodeA + "needs z\n", 3}, {onePlan + nodeA + "after z\n", 3}, {onePlan + nodeA + "after p\n", 3}, {onePlan + nodeA + "after aa\n", 3},
		{onePlan + nodeA + "needs c\nafter z\n" + nodeC, 4}, {onePlan + nodeA + "after c\nneeds z\n" + nodeC, 4}, {onePlan + nodeA + "after y\nneeds z\n" + nodeC, 3}, {onePlan + nodeA + "needs y\nafter z\n" + nodeC, 3},
		{onePlan + nodeA + "after z\n" + nodeB + "needs y\n", 3}, {onePlan + nodeA + "needs b\n\n" + nodeB + "#\nafter x\n" + nodeC + "needs y\n", 7},
		{onePlan + nodeA + nodeC + "needs a a a z\n", 4}, {onePlan + nodeA + nodeC + "needs z a\n", 4}, {onePlan + nodeA + nodeC + "needs a z a\n", 4},
	} {
		wantsFault(t, "P11.1", x.text, x.place, api.ErrSourceName)
	}
}

// P11.1: what names mean: later nodes too, the first one that bears it, each once, rising.
func TestParseMeaning(t *testing.T) {
	nodes := ""
	want := of()
	for i := range 10 {
		nodes += fmt.Sprintf("node n%d lane 0 budget 1 close 1\n", i)
		want.Nodes = append(want.Nodes, with(c(), func(n *api.Node) { n.Name = fmt.Sprintf("n%d", i) }))
	}
	for _, x := range []struct {
		line string
		list []int
	}{
		{"n9", []int{9}}, {"n9 n0", []int{0, 9}}, {"n8 n7 n6 n3 n2 n1 n0", []int{0, 1, 2, 3, 6, 7, 8}}, {"n3 n3 n3", []int{3}}, {"n6 n2 n6 n2 n6", []int{2, 6}}, {"n1 n2 n3 n4", []int{1, 2, 3, 4}},
		{strings.Repeat("n8 ", 300) + "n0 " + strings.Repeat("n9 ", 300), []int{0, 8, 9}}, // more names than edges may be, but each once
	} {
		text := onePlan + instead(nodes, "node n6", "needs "+x.line+"\nnode n6")
		want.Nodes[5].Needs, want.Nodes[5].After = x.list, nil
		wantsPlan(t, "P11.1", text, want)
		want.Nodes[5].Needs, want.Nodes[5].After = nil, x.list
		wantsPlan(t, "P11.1", strings.Replace(text, "needs", "after", 1), want)
	}
	// A name that two nodes bear is the first one's: no cycle is told of it, nor an edge to itself, but the name.
	wantsFault(t, "P11.1", onePlan+nodeA+nodeA+"needs a\n", 3, api.ErrPlanNode)
	wantsFault(t, "P11.1", onePlan+nodeA+"needs a\n"+nodeA, 2, api.ErrPlanEdge)
	wantsFault(t, "P11.1", onePlan+nodeC+"needs a\n"+nodeA+nodeA+"needs c\n", 5, api.ErrPlanNode)
	wantsFault(t, "P11.1", onePlan+nodeA+"needs c\nafter c\n"+nodeC+nodeC, 2, api.ErrPlanEdge)
}

// P11.1: each of Check's errors, and its line: the node's, or the plan's.
func TestParseChecks(t *testing.T) {
	var many, full strings.Builder
	for i := range 65 {
		fmt.Fprintf(&many, "node n%d lane 0 budget 1 close 1\n", i)
	}
	for i := range 23 {
		fmt.Fprintf(&full, "node n%d lane 0 budget 1 close 1\n", i)
		for j := range i {
			if j == 0 {
				full.WriteString("needs")
			}
			fmt.Fprintf(&full, " n%d", j)
			if j == i-1 {
				full.WriteString("\n")
			}
		}
	}
	full.WriteString("node last lane 0 budget 1 close 1\nafter n0 n1 n2\n") // 253 + 3 edges
	if _, place, code := Parse(onePlan + full.String()); place != 0 || code != api.OK {
		t.Fatalf("P11.1: 256 edges: %d, %d", place, code)
	}
	for _, x := range []struct {
		text  string
		place int
		code  api.Errno
	}{
		{instead(textT, "100", "0"), 1, api.ErrPlanDeadline}, {instead(textT, "100", "1099511627777"), 1, api.ErrPlanDeadline},
		{onePlan, 1, api.ErrPlanSize}, {onePlan + many.String(), 1, api.ErrPlanSize}, {onePlan + full.String() + nodeC + "needs n0", 1, api.ErrPlanSize},
		{textT + nodeB, 5, api.ErrPlanNode}, {textT + nodeC + "needs a b\n" + nodeA, 7, api.ErrPlanNode},
		{instead(textT, "lane 0", "lane 16"), 2, api.ErrPlanField}, {instead(textT, "budget 2", "budget 101"), 2, api.ErrPlanField}, {instead(textT, "close 5", "close 0"), 3, api.ErrPlanField}, {instead(textT, "beat 2", "beat 1099511627777"), 3, api.ErrPlanField},
		{instead(textT, "4 to 8", "9 to 8"), 3, api.ErrPlanField}, {instead(textT, "4 to 8", "0 to 8"), 3, api.ErrPlanField}, {instead(textT, "4 to 8", "0 to 0"), 3, api.ErrPlanField}, {instead(textT, "jitter 3", "jitter 1099511627777"), 3, api.ErrPlanField},
		{textT + "node c lane 0 budget 0 close 1", 5, api.ErrPlanField}, {textT + "after b\n", 3, api.ErrPlanEdge}, {textT + nodeC + "after a\nneeds b a\n", 5, api.ErrPlanEdge}, {onePlan + nodeA + "needs a", 2, api.ErrPlanEdge},
		{onePlan + nodeA + "after b\n" + nodeB + "needs a\n", 2, api.ErrPlanCycle}, {onePlan + nodeC + nodeA + "after b\n" + nodeB + "needs a\n", 3, api.ErrPlanCycle}, {onePlan + nodeC + "needs a\n" + nodeA + "after b\n" + nodeB + "needs a\n", 4, api.ErrPlanCycle},
	} {
		wantsFault(t, "P11.1", x.text, x.place, x.code)
		wantsFault(t, "P11.1", "\n#\n"+x.text, x.place+2, x.code)
		wantsFault(t, "P11.1", strings.ReplaceAll(x.text, "\n", "\n\n#\n"), 3*x.place-2, x.code)
	}
	wantsPlan(t, "P11.1", instead(textT, "4 to 8", "8 to 8"), of(a(), with(b(), func(n *api.Node) { n.Base = 8 })))
	last := strings.LastIndex(strings.TrimSpace(many.String()), "\n")
	if p, place, code := Parse(onePlan + many.String()[:last]); len(p.Nodes) != 64 || place != 0 || code != api.OK {
		t.Errorf("P11.1: 64 nodes: %d, %d, %d", len(p.Nodes), place, code)
	}
}

// several is a text in which each turn below makes one fault, and no other.
const several = "plan p deadline 7\nnode a lane 1 budget 1 close 1\nnode b lane 2 budget 1 close 1\n  needs a\nnode c lane 3 budget 1 close 1\n  after b\nnode d lane 4 budget 1 close 1\n" +
	"  needs c\nnode e lane 5 budget 1 close 1\n  after d\nnode f lane 6 budget 1 close 1\n  needs a e\n"

// P11.1: several faults at once: whichever stands ahead in the chapter's order is told, wherever in the text it is.
func TestParseOrder(t *testing.T) {
	more := func(text string) string {
		for i := range 60 {
			text += fmt.Sprintf("node more%d lane 0 budget 1 close 1\n", i)
		}
		return text
	}
	at := func(old, new string) func(text string) string {
		return func(text string) string { return instead(text, old, new) }
	}
	turns := []struct {
		place int
		code  api.Errno
		turn  func(text string) string
	}{
		{0, api.ErrSourceLong, func(text string) string { return text + strings.Repeat("\n", 1<<16) }},
		{7, api.ErrSourceLine, at("node d", "nod d")},
		{10, api.ErrSourceName, at("after d", "after y")},
		{1, api.ErrPlanDeadline, at("deadline 7", "deadline 0")},
		{1, api.ErrPlanSize, more},
		{11, api.ErrPlanNode, at("node f", "node a")},
		{11, api.ErrPlanField, at("lane 6", "lane 16")},
		{11, api.ErrPlanEdge, at("needs a e", "needs a e\nafter a")},
		{5, api.ErrPlanCycle, at("after b", "after b d")},
	}
	if _, code := asModel(t, "P11.1", several); code != api.OK {
		t.Fatal(code)
	}
	for some := 1; some < 1<<len(turns); some++ {
		text := several
		for i, x := range turns {
			if some>>i&1 == 1 {
				text = x.turn(text)
			}
		}
		first := turns[bits.TrailingZeros(uint(some))]
		wantsFault(t, "P11.1", text, first.place, first.code)
	}
}

// P11.1: of two nodes at fault the one ahead is told, whatever their faults are; of two lines that are none the one ahead.
func TestParseFirstNode(t *testing.T) {
	faults := []struct {
		code api.Errno
		line string
	}{
		{api.ErrPlanNode, "node a lane 0 budget 1 close 1\n"},
		{api.ErrPlanField, "node %s lane 0 budget 1 close 0\n"},
		{api.ErrPlanEdge, "node %s lane 0 budget 1 close 1\nneeds a\nafter a\n"},
	}
	for _, x := range faults {
		for _, y := range faults {
			first := onePlan + nodeA + "node b lane 0 budget 1 close 1\n" + strings.Replace(x.line, "%s", "c", 1)
			text := first + strings.Replace(y.line, "%s", "d", 1)
			wantsFault(t, "P11.1", first, 4, x.code)
			wantsFault(t, "P11.1", text, 4, x.code)
		}
	}
	bad := []string{"what", "plan q deadline 1", "node d", "needs", "after A", "needs a\nneeds a"}
	for _, x := range bad {
		for _, y := range bad {
			place := 5 + strings.Count(x, "\n")
			wantsFault(t, "P11.1", onePlan+nodeA+nodeC+nodeB+x+"\n"+y+"\n", place, api.ErrSourceLine)
		}
	}
}

// Ways: a fault is an error that tells its line and its number.
func TestFaultTells(t *testing.T) {
	_, err := read(textT + "after c")
	if err == nil || err.Error() != "line 5: escapement: error 112" {
		t.Errorf("the fault tells %v", err)
	}
}
