package front

import (
	"encoding/hex"
	"fmt"
	"math"
	"slices"
	"strings"
	"testing"

	"escapement/api"
)

// The promises P20.1, P20.2 and P20.6.

// bases are requests of all kinds, and operations of all kinds, that may be.
func bases() []api.Ask {
	return []api.Ask{
		submit(line(), "k"), poll(3), beat(1), complete(5, "xyz"), fail(2), cancel(1), forget(3), draw(258), tick(5),
		compact(), runOf(1), add("a.b-c_9", "30 2 * * *", line(), 7), drop("nightly"), fire(), round(3, 9),
	}
}

func TestBytesExamples(t *testing.T) {
	plan := "0170" + "64" + "01" + "0161" + "00020a00040800" + "0000" // chapter 12's p
	for _, x := range []struct {
		a    api.Ask
		want string
	}{
		{compact(), "02"},
		{fire(), "06"},
		{runOf(1), "0301"},
		{runOf(300), "03ac02"},
		{runOf(count), "03808080808020"},
		{round(0, 0), "07000000000000000000"},
		{round(16, 258), "07100201000000000000"},
		{round(count, math.MaxUint64), "07808080808020ffffffffffffffff"},
		{drop("a"), "050161"},
		{drop(""), "0500"},
		{tick(5), "010905"},
		{tick(late), "0109808080808080808040"},
		{draw(1), "01080100000000000000"},
		{op(api.Op{Kind: api.OpPoll}), "01020000"},
		{submit(of(node("a")), "k"), "0101" + plan + "016b"},
		{complete(5, "\x07\x07"), "010405020707"},
		{add("n", "* *", of(node("a")), 300), "04" + "016e" + "032a202a" + plan + "ac02"},
		{add("", "", of(node("a")), 0), "04" + "00" + "00" + plan + "00"},
		{add("n", "", of(node("a")), late), "04" + "016e" + "00" + plan + "808080808080808040"},
	} {
		b, code := Bytes(x.a)
		if got := hex.EncodeToString(b); got != x.want || code != api.OK {
			t.Errorf("P20.1: Bytes(%s): %s, %d; want %s", brief(x.a), got, code, x.want)
		}
		b, _ = hex.DecodeString(x.want)
		if a, code := Read(b); !sameAsk(a, x.a) || code != api.OK {
			t.Errorf("P20.2: Read(%s): %s, %d; want %s", x.want, brief(a), code, brief(x.a))
		}
	}
	for _, a := range []api.Ask{{Kind: api.AskCompact, Run: 1}, {Kind: api.AskRun}} {
		if b, code := Bytes(a); len(b) != 0 || code != api.ErrFrontAsk {
			t.Errorf("P20.1: Bytes(%s): %x, %d", brief(a), b, code)
		}
	}
	for _, row := range []string{"0300", "03", "08", "0200", ""} {
		b, _ := hex.DecodeString(row)
		if a, code := Read(b); !sameAsk(a, api.Ask{}) || code != api.ErrFrontAsk {
			t.Errorf("P20.2: Read(%s): %s, %d", row, brief(a), code)
		}
	}
}

// bounds are numbers about the edges of all that is counted, some with low bits that would be within them.
func bounds() []int {
	return []int{math.MinInt, math.MinInt + 1, -1 << 40, -1<<32 + 5, -1 << 31, -2, -1, 0, 1, 2, 3, 4, 5, 6, 7, 8, 9, 10, 15, 16, 17, 64, 127, 128, 255, 256, 257, 263, 1<<14 - 1, 1 << 14,
		1<<31 - 1, 1 << 31, 1 << 32, 1<<32 + 5, count - 1, count, count + 1, count + 5, 1 << 41, 1<<41 + 5, late - 1, late, late + 1, late + 5, math.MaxInt - 1, math.MaxInt}
}

// P20.1: each number that is no kind, alone and with the fields of each kind.
func TestBytesKinds(t *testing.T) {
	may := map[int]int{}
	for _, kind := range bounds() {
		if lays(t, api.Ask{Kind: kind}) {
			may[kind]++
		}
		for _, a := range bases() {
			was := a.Kind
			a.Kind = kind
			if lays(t, a) != (kind == was || (was == 2 || was == 6) && slices.Contains([]int{2, 5, 6, 7}, kind)) {
				t.Errorf("P20.1: the kind of %s was %d", brief(a), was)
			}
		}
	}
	if want := map[int]int{2: 1, 5: 1, 6: 1, 7: 1}; fmt.Sprint(may) != fmt.Sprint(want) {
		t.Errorf("P20.1: kinds whose fields may all be zero: %v", may)
	}
}

// P20.1: each number at its bounds.
func TestBytesNumbers(t *testing.T) {
	for _, x := range []struct {
		what        string
		least, most int
		of          func(n int) api.Ask
	}{
		{"Run", 1, count, runOf},
		{"From", 0, late, func(n int) api.Ask { return add("n", "c", line(), n) }},
		{"Workers", 0, count, func(n int) api.Ask { return round(n, 1) }},
		{"Op's Lane", 0, 15, poll},
		{"Op's Worker", 0, count, func(n int) api.Ask { return op(api.Op{Kind: api.OpPoll, Worker: n}) }},
		{"Op's Token, of a beat", 1, count, beat},
		{"Op's Token, of a failure", 1, count, fail},
		{"Op's Token", 1, count, func(n int) api.Ask { return complete(n, "r") }},
		{"Op's Run, cancelled", 1, count, cancel},
		{"Op's Run, forgotten", 1, count, forget},
		{"Op's Ticks", 0, late, tick},
		{"a plan's Deadline", 1, count, func(n int) api.Ask { p := line(); p.Deadline = n; return submit(p, "") }},
		{"a schedule's Deadline", 1, count, func(n int) api.Ask { p := line(); p.Deadline = n; return add("n", "c", p, 0) }},
	} {
		for _, n := range bounds() {
			if lays(t, x.of(n)) != within(n, x.least, x.most) {
				t.Errorf("P20.1: %s of %d", x.what, n)
			}
		}
	}
	for _, word := range []uint64{0, 1, 127, 128, 1 << 32, 1 << 63, math.MaxUint64} {
		if !lays(t, draw(word)) || !lays(t, round(1, word)) {
			t.Errorf("P20.1: the word %d", word)
		}
	}
}

// P20.1: each text and each row of bytes at its length; of any bytes.
func TestBytesTexts(t *testing.T) {
	for _, x := range []struct {
		what string
		most int
		of   func(s string) api.Ask
	}{
		{"Name", 20, drop},
		{"a schedule's Name", 20, func(s string) api.Ask { return add(s, "c", line(), 0) }},
		{"a schedule's Cron", 1024, func(s string) api.Ask { return add("n", s, line(), 0) }},
		{"Op's Key", 40, func(s string) api.Ask { return submit(line(), s) }},
		{"Op's Result", 64, func(s string) api.Ask { return complete(1, s) }},
	} {
		for _, length := range []int{0, 1, 2, 19, 20, 21, 39, 40, 41, 63, 64, 65, 127, 128, 255, 256, 1023, 1024, 1025, 1026, 2048, 1 << 16, 1<<16 + 20, 1 << 20} {
			for _, letter := range []string{"a", "\x00", "\xff", " "} {
				if lays(t, x.of(strings.Repeat(letter, length))) != (length <= x.most) {
					t.Errorf("P20.1: %s of %d bytes", x.what, length)
				}
			}
		}
		for _, s := range []string{"Ä", "日本", "a\nb", "\xc3(", "A b@"} {
			if !lays(t, x.of(s)) {
				t.Errorf("P20.1: %s %q", x.what, s)
			}
		}
	}
}

// turns each set one field of a request, or one within it.
func turns() map[string]func(a *api.Ask) {
	all := map[string]func(a *api.Ask){
		"Op.Key":        func(a *api.Ask) { a.Op.Key = "q" },
		"Op.Result":     func(a *api.Ask) { a.Op.Result = []byte{0} },
		"Op.Luck":       func(a *api.Ask) { a.Op.Luck = 1 << 63 },
		"Name":          func(a *api.Ask) { a.Name = "\x00" },
		"Seed":          func(a *api.Ask) { a.Seed = 1 << 63 },
		"Schedule.Name": func(a *api.Ask) { a.Schedule.Name = "n" },
		"Schedule.Cron": func(a *api.Ask) { a.Schedule.Cron = "* * * * *" },
	}
	for what, at := range map[string]func(a *api.Ask) *int{
		"Op.Kind":       func(a *api.Ask) *int { return &a.Op.Kind },
		"Op.Lane":       func(a *api.Ask) *int { return &a.Op.Lane },
		"Op.Worker":     func(a *api.Ask) *int { return &a.Op.Worker },
		"Op.Token":      func(a *api.Ask) *int { return &a.Op.Token },
		"Op.Run":        func(a *api.Ask) *int { return &a.Op.Run },
		"Op.Ticks":      func(a *api.Ask) *int { return &a.Op.Ticks },
		"Run":           func(a *api.Ask) *int { return &a.Run },
		"Schedule.From": func(a *api.Ask) *int { return &a.Schedule.From },
		"Workers":       func(a *api.Ask) *int { return &a.Workers },
	} {
		all[what] = func(a *api.Ask) { *at(a) = 1 }
		all[what+" below"] = func(a *api.Ask) { *at(a) = -1 }
		all[what+" far"] = func(a *api.Ask) { *at(a) = 1 << 32 }
	}
	for what, at := range map[string]func(a *api.Ask) *api.Plan{
		"Op.Plan":       func(a *api.Ask) *api.Plan { return &a.Op.Plan },
		"Schedule.Plan": func(a *api.Ask) *api.Plan { return &a.Schedule.Plan },
	} {
		all[what] = func(a *api.Ask) { *at(a) = line() }
		all[what+".Name"] = func(a *api.Ask) { at(a).Name = "q" }
		all[what+".Deadline"] = func(a *api.Ask) { at(a).Deadline = 9 }
		all[what+".Nodes"] = func(a *api.Ask) { at(a).Nodes = []api.Node{{}} }
		all[what+" of none"] = func(a *api.Ask) { *at(a) = api.Plan{Nodes: []api.Node{}} }
	}
	return all
}

// P20.1: fields that a kind does not use, each alone, and each two; the model tells what may be.
func TestBytesUnused(t *testing.T) {
	all := turns()
	for _, base := range bases() {
		refused := 0
		for what, turn := range all {
			a := base
			turn(&a)
			may := lays(t, a)
			// All but the operation and the schedule are one field each, that no other kind uses.
			if used := map[string]int{"Run": 3, "Name": 5, "Workers": 7, "Seed": 7, "Schedule.From": 4, "Op.Luck": 1}[what]; used != 0 && used != base.Kind && may {
				t.Errorf("P20.1: %s of the kind %d is used", what, base.Kind)
			}
			if !may {
				refused++
			}
			for _, also := range all {
				b := a
				also(&b)
				lays(t, b)
			}
		}
		if refused < 20 {
			t.Errorf("P20.1: only %d fields of %s are looked at", refused, brief(base))
		}
	}
}

// P20.1, R4: lists and bytes that are there, but without things, are zero.
func TestBytesNilAndEmpty(t *testing.T) {
	for _, a := range bases() {
		want := bytesOf(t, a)
		if a.Kind != api.AskOp || a.Op.Kind != api.OpComplete {
			a.Op.Result = []byte{}
		}
		if a.Kind != api.AskOp || a.Op.Kind != api.OpSubmit {
			a.Op.Plan.Nodes = make([]api.Node, 0, 5)
		} else {
			a.Op.Plan.Nodes[0].Needs, a.Op.Plan.Nodes[0].After = []int{}, []int{}
		}
		if a.Kind != api.AskAdd {
			a.Schedule.Plan.Nodes = []api.Node{}
		} else {
			a.Schedule.Plan.Nodes[1].After = make([]int, 0, 3)
		}
		if got, code := Bytes(a); string(got) != string(want) || code != api.OK {
			t.Errorf("R4: Bytes(%s): %x, %d; want %x", brief(a), got, code, want)
		}
	}
	if a, code := Read([]byte{}); !sameAsk(a, api.Ask{}) || code != api.ErrFrontAsk {
		t.Errorf("R4: Read of no bytes: %s, %d", brief(a), code)
	}
	if b, code := Bytes(complete(1, "")); string(b) != "\x01\x04\x01\x00" || code != api.OK {
		t.Errorf("R4: a result without bytes: %x, %d", b, code)
	}
}

// refusedPlans has each of chapter 10's errors; those that say so have fields that their forms take.
func refusedPlans() map[string]api.Plan {
	bad := func(turn func(p *api.Plan)) api.Plan {
		p := of(node("a"), node("b", 0), node("c", 0, 1))
		turn(&p)
		return p
	}
	wild := bad(func(p *api.Plan) {})
	wild.Nodes = make([]api.Node, 1<<16)
	return map[string]api.Plan{
		"nothing":                 {},
		"no name, laid":           bad(func(p *api.Plan) { p.Name = "" }),
		"a great letter, laid":    bad(func(p *api.Plan) { p.Name = "P" }),
		"a name of 41":            bad(func(p *api.Plan) { p.Name = strings.Repeat("p", 41) }),
		"no deadline":             bad(func(p *api.Plan) { p.Deadline = 0 }),
		"a deadline above":        bad(func(p *api.Plan) { p.Deadline = count + 1 }),
		"no nodes, laid":          of(),
		"65 nodes":                plain(65),
		"many nodes":              wild,
		"257 edges":               bad(func(p *api.Plan) { p.Nodes[2].Needs = make([]int, 257) }),
		"a name twice, laid":      bad(func(p *api.Plan) { p.Nodes[2].Name = "a" }),
		"a lane":                  bad(func(p *api.Plan) { p.Nodes[0].Lane = 16 }),
		"no budget":               bad(func(p *api.Plan) { p.Nodes[0].Budget = 0 }),
		"a budget":                bad(func(p *api.Plan) { p.Nodes[0].Budget = 101 }),
		"a close":                 bad(func(p *api.Plan) { p.Nodes[2].Close = 0 }),
		"a beat":                  bad(func(p *api.Plan) { p.Nodes[2].Beat = -1 }),
		"a base above cap, laid":  bad(func(p *api.Plan) { p.Nodes[2].Base = 9 }),
		"a jitter":                bad(func(p *api.Plan) { p.Nodes[2].Jitter = count + 1 }),
		"an edge to none, laid":   bad(func(p *api.Plan) { p.Nodes[2].Needs = []int{3} }),
		"an edge far":             bad(func(p *api.Plan) { p.Nodes[0].Needs = []int{math.MaxInt} }),
		"its own, laid":           bad(func(p *api.Plan) { p.Nodes[2].Needs = []int{2} }),
		"falling edges, laid":     bad(func(p *api.Plan) { p.Nodes[2].Needs = []int{1, 0} }),
		"in both lists, laid":     bad(func(p *api.Plan) { p.Nodes[2].After = []int{1} }),
		"a cycle, laid":           bad(func(p *api.Plan) { p.Nodes[0].Needs = []int{2} }),
		"a cycle by After, laid":  bad(func(p *api.Plan) { p.Nodes[0].After = []int{2} }),
		"a blank in a name, laid": bad(func(p *api.Plan) { p.Nodes[1].Name = "b b" }),
	}
}

// layPlan lays the fields of a plan, may it be or not.
func layPlan(b []byte, p api.Plan) []byte {
	b = number(number(text(b, p.Name), p.Deadline), len(p.Nodes))
	for _, n := range p.Nodes {
		b = text(b, n.Name)
		for _, x := range []int{n.Lane, n.Budget, n.Close, n.Beat, n.Base, n.Cap, n.Jitter} {
			b = number(b, x)
		}
		for _, list := range [][]int{n.Needs, n.After} {
			b = number(b, len(list))
			for _, x := range list {
				b = number(b, x)
			}
		}
	}
	return b
}

// P20.1, P20.2: plans that chapter 12 refuses, as values and as bytes, submitted and in schedules.
func TestPlansRefused(t *testing.T) {
	for what, p := range refusedPlans() {
		if lays(t, submit(p, "k")) || lays(t, add("n", "c", p, 0)) {
			t.Errorf("P20.1: %s", what)
		}
		if !strings.HasSuffix(what, ", laid") {
			continue
		}
		if reads(t, text(layPlan([]byte{1, 1}, p), "k")) || reads(t, number(layPlan([]byte{4, 1, 'n', 1, 'c'}, p), 0)) {
			t.Errorf("P20.2: %s", what)
		}
	}
	p := line()
	if !reads(t, text(layPlan([]byte{1, 1}, p), "k")) || !reads(t, number(layPlan([]byte{4, 1, 'n', 1, 'c'}, p), 0)) {
		t.Error("P20.2: a plan that may be")
	}
	if !lays(t, submit(greatest(), strings.Repeat("k", 40))) || !lays(t, add(strings.Repeat("n", 20), strings.Repeat("c", 1024), greatest(), late)) {
		t.Error("P20.1: the greatest plan")
	}
}

// P20.1: operations that chapter 12 refuses.
func TestOpsRefused(t *testing.T) {
	for _, o := range []api.Op{
		{}, {Kind: -1}, {Kind: 10}, {Kind: 1 << 32}, {Kind: api.OpPoll, Run: 1}, {Kind: api.OpBeat}, {Kind: api.OpTick, Ticks: -1}, {Kind: api.OpPoll, Lane: 16}, {Kind: api.OpPoll, Key: "k"},
		{Kind: api.OpSubmit, Plan: line(), Token: 1}, {Kind: api.OpSubmit}, {Kind: api.OpTick, Luck: 1}, {Kind: api.OpDraw, Result: []byte{1}}, {Kind: api.OpCancel}, {Kind: api.OpForget, Run: count + 1}, {Kind: api.OpCancel, Run: 1, Plan: line()},
	} {
		if lays(t, op(o)) {
			t.Errorf("P20.1: an operation that is none: %+v", o)
		}
	}
}

// rows are bytes of requests of all kinds, at their bounds and by chance.
func rows(t *testing.T) (all [][]byte) {
	t.Helper()
	list := append(bases(), runOf(count), round(0, 0), round(count, math.MaxUint64), drop(""), drop(strings.Repeat("\xff", 20)), tick(0), tick(late), tick(127), tick(128), add("", "", of(node("a")), late), complete(count, strings.Repeat("r", 64)))
	r := chance(1)
	for kind := 1; kind <= 7; kind++ {
		for range 8 {
			list = append(list, anyAsk(r, kind))
		}
	}
	for _, a := range list {
		all = append(all, bytesOf(t, a))
	}
	return all
}

// P20.2: bytes that end too early, bytes behind the end.
func TestReadEnds(t *testing.T) {
	for _, b := range rows(t) {
		if !reads(t, b) {
			t.Errorf("P20.2: %x", b)
		}
		for n := range b {
			if reads(t, b[:n]) {
				t.Errorf("P20.2: %x, of which %d bytes are there", b, n)
			}
		}
		for _, rest := range []string{"\x00", "\x01", "\x02", "\x06", "\x80", "\xff", "\x00\x00", string(b)} {
			if reads(t, append(slices.Clone(b), rest...)) {
				t.Errorf("P20.2: %x, and %x behind it", b, rest)
			}
		}
		if reads(t, append(slices.Clone(b), make([]byte, 1000)...)) {
			t.Errorf("P20.2: %x, and 1000 bytes behind it", b)
		}
	}
}

// P20.2: each byte turned, taken out, and doubled.
func TestReadTurned(t *testing.T) {
	right := 0
	for _, b := range rows(t) {
		for i := range min(len(b), 200) {
			for _, turn := range []byte{1, 2, 3, 4, 0x20, 0x7f, 0x80, 0x81, 0xff} {
				c := slices.Clone(b)
				c[i] ^= turn
				if reads(t, c) {
					right++
				}
			}
			reads(t, slices.Delete(slices.Clone(b), i, i+1))
			reads(t, slices.Insert(slices.Clone(b), i, b[i]))
			reads(t, slices.Insert(slices.Clone(b), i, 0))
		}
	}
	if right < 1000 {
		t.Errorf("P20.2: only %d rows that are turned are requests", right)
	}
}

// P20.2: all rows of up to two bytes, and many of three and four.
func TestReadShort(t *testing.T) {
	var right []string
	try := func(b ...byte) {
		if reads(t, b) {
			right = append(right, string(b))
		}
	}
	try()
	for x := range 256 {
		try(byte(x))
		for y := range 256 {
			try(byte(x), byte(y))
		}
	}
	// 2, 6; 3 with 1 to 127; 5 with 0.
	if len(right) != 2+127+1 {
		t.Errorf("P20.2: %d rows of up to two bytes are requests", len(right))
	}
	some := []byte{0, 1, 2, 3, 4, 5, 6, 7, 8, 9, 15, 16, 64, 127, 128, 129, 255}
	for kind := range 10 {
		for _, x := range some {
			for _, y := range some {
				try(byte(kind), x, y)
				for _, z := range some {
					try(byte(kind), x, y, z)
				}
			}
		}
	}
}

// P20.2: kinds that are none; numbers that are not in their one form, or out of their bounds, wherever a request has one.
func TestReadNumbers(t *testing.T) {
	never := func(b []byte) {
		t.Helper()
		if reads(t, b) {
			t.Errorf("P20.2: %x", b)
		}
	}
	plan := layPlan(nil, line())
	ways := []struct {
		what        string
		least, most int
		head, tail  string
	}{
		{"Kind of a run", 3, 3, "", "\x01"}, {"Kind of an operation", 1, 1, "", "\x09\x05"}, {"Kind of a crew", 7, 7, "", strings.Repeat("\x00", 9)}, {"Kind of a drop", 5, 5, "", "\x01a"},
		{"Run", 1, count, "\x03", ""}, {"Workers", 0, count, "\x07", "12345678"}, {"From", 0, late, "\x04\x01n\x01c" + string(plan), ""},
		{"Name's length", 2, 2, "\x05", "ab"}, {"a schedule's Name's length", 1, 1, "\x04", "n\x01c" + string(plan) + "\x00"}, {"Cron's length", 1, 1, "\x04\x01n", "c" + string(plan) + "\x00"},
		{"Op's Kind", 9, 9, "\x01", string(number(nil, count+1))}, {"Op's Ticks", 0, late, "\x01\x09", ""}, {"Op's Token", 1, count, "\x01\x03", ""}, {"Op's Run", 1, count, "\x01\x06", ""}, {"Op's Lane", 0, 15, "\x01\x02", "\x00"}, {"Op's Worker", 0, count, "\x01\x02\x00", ""}, {"a result's length", 3, 3, "\x01\x04\x01", "abc"},
	}
	for _, x := range ways {
		for _, n := range bounds() {
			if n < 0 {
				continue
			}
			row := func(n []byte) []byte { return slices.Concat([]byte(x.head), n, []byte(x.tail)) }
			b := number(nil, n)
			if reads(t, row(b)) != within(n, x.least, x.most) {
				t.Errorf("P20.2: %s of %d", x.what, n)
			}
			// The same number with groups of noughts behind it.
			for range 9 {
				b[len(b)-1] |= 0x80
				b = append(b, 0)
				never(row(b))
			}
		}
		for _, n := range []string{"\x80", "\xff\xff\xff\xff\xff\xff\xff\xff\xff", "\xff\xff\xff\xff\xff\xff\xff\xff\xff\x01", "\x80\x80\x80\x80\x80\x80\x80\x80\x80\x01"} {
			never(slices.Concat([]byte(x.head), []byte(n), []byte(x.tail)))
		}
	}
	for _, b := range []string{"\x82\x00", "\x86\x00", "\x82\x80\x00", "\x82", "\x86"} {
		never([]byte(b))
	}
}

// P20.2: texts that are too long, and more bytes than a reader takes.
func TestReadLong(t *testing.T) {
	plan := string(layPlan(nil, line()))
	for _, length := range []int{0, 1, 19, 20, 21, 127, 128, 1023, 1024, 1025, 1 << 16} {
		s := string(text(nil, strings.Repeat("x", length)))
		if reads(t, []byte("\x05"+s)) != (length <= 20) || reads(t, []byte("\x04"+s+"\x00"+plan+"\x00")) != (length <= 20) || reads(t, []byte("\x04\x00"+s+plan+"\x00")) != (length <= 1024) {
			t.Errorf("P20.2: a text of %d bytes", length)
		}
	}
	for _, length := range []int{api.MaxLen - 1, api.MaxLen, api.MaxLen + 1, api.MaxLen + 7} {
		for _, kind := range []byte{2, 3, 6} {
			b := make([]byte, length)
			b[0] = kind
			if _, code := Read(b); code != api.ErrFrontAsk {
				t.Errorf("P20.2: %d bytes: %d", length, code)
			}
		}
	}
}

// P20.2: rows by chance behind each kind.
func TestReadChance(t *testing.T) {
	r := chance(2)
	for range 20000 {
		b := []byte(anyText(r, 20))
		if len(b) > 0 {
			b[0] = byte(r.Intn(9))
		}
		for i := range b {
			if r.Intn(2) == 0 {
				b[i] &= 15
			}
		}
		reads(t, b)
	}
}

// P20.6: there and back, and neither's bytes begin the other's, of requests by chance, at their bounds, and of bytes that begin alike.
func TestAlone(t *testing.T) {
	r := chance(3)
	asks := bases()
	for kind := 1; kind <= 7; kind++ {
		for range 300 {
			asks = append(asks, anyAsk(r, kind))
		}
	}
	for _, n := range bounds() {
		asks = append(asks, runOf(n), tick(n), round(n, 0), add("", "", line(), n), beat(n), poll(n))
	}
	for length := range 30 {
		for _, letter := range []string{"\x00", "\x01", "a", "\x05"} {
			s := strings.Repeat(letter, length)
			asks = append(asks, drop(s), add(s, s, line(), 0), add("", s, of(node("a")), 1), complete(1, s), submit(line(), s))
		}
	}
	byBytes := map[string]api.Ask{}
	var all []string
	for _, a := range asks {
		if !lays(t, a) {
			continue
		}
		b := string(bytesOf(t, a))
		if other, there := byBytes[b]; there && !sameAsk(a, other) {
			t.Errorf("P20.6: %s and %s have the same bytes", brief(a), brief(other))
		}
		if _, there := byBytes[b]; !there {
			byBytes[b] = a
			all = append(all, b)
		}
		if !reads(t, []byte(b)) {
			t.Errorf("P20.6: %x", b)
		}
	}
	// Of sorted texts one that begins another one begins the next.
	slices.Sort(all)
	for i := 1; i < len(all); i++ {
		if strings.HasPrefix(all[i], all[i-1]) {
			t.Errorf("P20.6: %x begins %x", all[i-1], all[i])
		}
	}
	if len(all) < 1500 {
		t.Errorf("P20.6: only %d requests", len(all))
	}
}
