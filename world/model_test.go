package world

import (
	"fmt"
	"math/big"
	"math/rand"
	"regexp"
	"slices"
	"strconv"
	"strings"
	"testing"

	"escapement/api"
	"escapement/cadence"
	"escapement/crew"
	"escapement/disk"
	"escapement/durable"
	"escapement/source"
)

// A model of the chapter: lines' forms are regular expressions, the words of a line are gone through anew when it is played, and the layers below are asked one by one.

var (
	modelRemark = regexp.MustCompile(`(?s)#.*`)
	modelBlanks = regexp.MustCompile(`[ \t]+`)
	modelDigits = regexp.MustCompile(`^(0|[1-9][0-9]*)$`)
	modelDisk   = regexp.MustCompile(`^disk (0|[1-9][0-9]*)$`)
	modelForms  = []*regexp.Regexp{
		regexp.MustCompile(`^submit (?P<plan>[^ ]+)( key [^ ]+)?$`),
		regexp.MustCompile(`^poll (?P<n>[^ ]+) by (?P<n>[^ ]+)$`),
		regexp.MustCompile(`^(beat|fail|complete|work|cancel|forget|draw|tick|arm|ready|run) (?P<n>[^ ]+)$`),
		regexp.MustCompile(`^complete (?P<n>[^ ]+) ([0-9a-f][0-9a-f])+$`),
		regexp.MustCompile(`^(compact|fire|crash|reopen|now|due|segments)$`),
		regexp.MustCompile(`^crew (?P<n>[^ ]+) seed (?P<n>[^ ]+)$`),
		regexp.MustCompile(`^schedule [^ ]+ plan (?P<plan>[^ ]+) from (?P<n>[^ ]+) at [^ ]+ [^ ]+ [^ ]+ [^ ]+ [^ ]+$`),
		regexp.MustCompile(`^drop [^ ]+$`),
		regexp.MustCompile(`^spoil (?P<n>[^ ]+) at (?P<n>[^ ]+) mask (?P<n>[^ ]+)$`),
	}
)

// modelSaid is a line without its remark, with one blank between words.
func modelSaid(line string) string {
	return strings.Trim(modelBlanks.ReplaceAllString(modelRemark.ReplaceAllString(line, ""), " "), " ")
}

func modelIsNumber(word string) bool {
	n, ok := new(big.Int).SetString(word, 10)
	return modelDigits.MatchString(word) && ok && n.Cmp(new(big.Int).Lsh(big.NewInt(1), 62)) <= 0
}

// modelIsLine tells whether a line may stand behind the disk's, with these plans ahead of it.
func modelIsLine(said string, plans map[string]api.Plan) bool {
	if numbers, ok := strings.CutPrefix(said, "crash "); ok {
		return !slices.ContainsFunc(strings.Split(numbers, " "), func(word string) bool { return !modelIsNumber(word) })
	}
	for _, form := range modelForms {
		parts := form.FindStringSubmatch(said)
		fits := parts != nil
		for i, name := range form.SubexpNames() {
			if fits && name == "n" {
				fits = modelIsNumber(parts[i])
			}
			if fits && name == "plan" {
				_, fits = plans[parts[i]]
			}
		}
		if fits {
			return true
		}
	}
	return false
}

// modelPlan is the plan that begins at a line, and the line of its end; beside a line that is not 0 that one is wrong.
func modelPlan(lines, said []string, at int) (p api.Plan, end, wrong int) {
	end = slices.Index(said[at:], "end")
	if end < 0 {
		return p, 0, at + 1
	}
	p, line, code := source.Parse(strings.Join(lines[at:at+end], "\n") + "\n")
	if code != api.OK {
		return p, 0, at + max(line, 1)
	}
	return p, at + end, 0
}

// modelRead finds what is wrong in a script, ahead of all playing.
func modelRead(script string) (lines, said []string, line int, code api.Errno) {
	lines = strings.Split(script, "\n")
	plans := map[string]api.Plan{}
	count := 0
	for _, x := range lines {
		said = append(said, modelSaid(x))
		if said[len(said)-1] != "" {
			count++
		}
	}
	if len(script) > 65536 || count > 2000 {
		return nil, nil, 0, api.ErrWorldLong
	}
	first := slices.IndexFunc(said, func(x string) bool { return x != "" })
	if first < 0 {
		return nil, nil, strings.Count(script, "\n") + 1, api.ErrWorldLine
	}
	capacity := modelDisk.FindStringSubmatch(said[first])
	if capacity == nil || !modelIsNumber(capacity[1]) {
		return nil, nil, first + 1, api.ErrWorldLine
	}
	for at := first + 1; at < len(said); at++ {
		if said[at] == "plan" || strings.HasPrefix(said[at], "plan ") {
			p, end, wrong := modelPlan(lines, said, at)
			if wrong != 0 {
				return nil, nil, wrong, api.ErrWorldLine
			}
			plans[p.Name] = p
			at = end
		} else if said[at] != "" && !modelIsLine(said[at], plans) {
			return nil, nil, at + 1, api.ErrWorldLine
		}
	}
	if len(capacity[1]) > 8 || modelNumber(capacity[1]) > 67108864 {
		return nil, nil, first + 1, api.ErrWorldLine
	}
	return lines, said, 0, api.OK
}

func modelNumber(word string) int {
	n, err := strconv.Atoi(word)
	if err != nil {
		panic(err)
	}
	return n
}

// model is a script that is being played.
type model struct {
	d     *disk.Disk
	s     *durable.Store
	b     *cadence.Book
	polls []api.Task
	out   strings.Builder
	codes map[string]int // how often a word was refused by a code, or not
}

func (m *model) print(format string, parts ...any) { fmt.Fprintf(&m.out, format, parts...) }

// modelRun is what Run must answer.
func modelRun(script string, codes map[string]int) (string, int, api.Errno) {
	lines, said, line, code := modelRead(script)
	if code != api.OK {
		return "", line, code
	}
	m := &model{codes: codes}
	plans := map[string]api.Plan{}
	for at := 0; at < len(said); at++ {
		words := strings.Split(said[at], " ")
		switch words[0] {
		case "":
		case "disk":
			m.d, _ = disk.New(modelNumber(words[1]))
			m.s, _ = durable.Open(m.d)
			m.b = cadence.New()
		case "plan":
			p, end, _ := modelPlan(lines, said, at)
			plans[p.Name] = p
			at = end
		default:
			m.print("%d %s", at+1, words[0])
			code := m.line(words, plans)
			if code != api.OK {
				m.print(" refused %d\n", int(code))
			}
			if codes != nil {
				codes[fmt.Sprint(words[0], " ", int(code))]++
			}
		}
	}
	return m.out.String(), 0, api.OK
}

// line plays one, and prints what stands behind its first word; of one that is refused nothing.
func (m *model) line(words []string, plans map[string]api.Plan) api.Errno {
	n := func(at int) int { return modelNumber(words[at]) }
	switch words[0] {
	case "schedule":
		return m.ok(m.b.Add(api.Schedule{Name: words[1], Cron: strings.Join(words[7:], " "), Plan: plans[words[3]], From: n(5)}))
	case "drop":
		return m.ok(m.b.Drop(words[1]))
	case "arm":
		return m.ok(m.d.Arm(n(1)))
	case "spoil":
		return m.ok(m.d.Spoil(n(1), n(3), byte(n(5)%256)))
	case "segments":
		return m.segments()
	case "crash", "reopen":
		if words[0] == "crash" {
			var fate []int
			for at := range words[1:] {
				fate = append(fate, n(at+1))
			}
			m.d.Crash(fate)
		}
		return m.open()
	}
	if m.s == nil {
		return api.ErrDurableDead
	}
	switch words[0] {
	case "now":
		m.print(" %d\n", m.s.Now())
	case "ready":
		m.print(" %d\n", m.s.Ready(n(1)))
	case "due":
		if t, ok := m.s.Due(); ok {
			m.print(" %d\n", t)
		} else {
			m.print(" none\n")
		}
	case "run":
		return m.run(n(1))
	case "compact":
		return m.ok(m.s.Compact())
	case "crew":
		return m.crew(n(1), uint64(n(3)))
	case "fire":
		return m.fire()
	case "work":
		return m.work(n(1))
	default:
		return m.do(modelOp(words, plans))
	}
	return api.OK
}

func modelOp(words []string, plans map[string]api.Plan) api.Op {
	if words[0] == "submit" {
		return api.Op{Kind: api.OpSubmit, Plan: plans[words[1]], Key: strings.Join(words[min(len(words), 3):], "")}
	}
	n := modelNumber(words[1])
	switch words[0] {
	case "poll":
		return api.Op{Kind: api.OpPoll, Lane: n, Worker: modelNumber(words[3])}
	case "beat":
		return api.Op{Kind: api.OpBeat, Token: n}
	case "fail":
		return api.Op{Kind: api.OpFail, Token: n}
	case "complete":
		o := api.Op{Kind: api.OpComplete, Token: n}
		if len(words) > 2 {
			fmt.Sscanf(words[2], "%x", &o.Result)
		}
		return o
	case "cancel":
		return api.Op{Kind: api.OpCancel, Run: n}
	case "forget":
		return api.Op{Kind: api.OpForget, Run: n}
	case "draw":
		return api.Op{Kind: api.OpDraw, Luck: uint64(n)}
	case "tick":
		return api.Op{Kind: api.OpTick, Ticks: n}
	}
	panic(words[0])
}

func (m *model) ok(code api.Errno) api.Errno {
	if code == api.OK {
		m.print(" ok\n")
	}
	return code
}

func (m *model) open() api.Errno {
	s, code := durable.Open(m.d)
	m.s, m.b = s, cadence.New()
	if code == api.OK {
		m.print(" ok %d\n", s.Now())
	}
	return code
}

func (m *model) do(o api.Op) api.Errno {
	a := m.s.Do(o)
	if a.Code != api.OK {
		return a.Code
	}
	m.print(" ok")
	if o.Kind == api.OpSubmit {
		m.submitted(a)
	}
	if o.Kind == api.OpPoll {
		m.polls = append(m.polls, a.Task)
		m.print(" token %d run %d node %s attempt %d until %d", a.Task.Token, a.Task.Run, a.Task.Name, a.Task.Attempt, a.Task.Until)
		if a.Task.BeatBy > 0 {
			m.print(" beat %d", a.Task.BeatBy)
		}
		for _, b := range a.Task.Inputs {
			m.print(" in %s", modelHex(b))
		}
	}
	m.print("\n")
	m.notes("  ", a.Notes)
	return api.OK
}

func (m *model) submitted(a api.Answer) {
	m.print(" %d", a.Run)
	if a.Again {
		m.print(" again")
	}
}

func (m *model) work(token int) api.Errno {
	for _, task := range slices.Backward(m.polls) {
		if task.Token == token {
			return m.do(api.Op{Kind: api.OpComplete, Token: token, Result: crew.Work(task.Name, task.Inputs)})
		}
	}
	return api.ErrEngineToken
}

func (m *model) crew(workers int, seed uint64) api.Errno {
	list, code := crew.Round(m.s, workers, seed)
	if code != api.OK {
		return code
	}
	m.print(" ok %d\n", len(list))
	for _, a := range list {
		if a.Code == api.OK {
			m.print("  ok\n")
		} else {
			m.print("  refused %d\n", int(a.Code))
		}
		m.notes("    ", a.Notes)
	}
	return api.OK
}

func (m *model) fire() api.Errno {
	list, code := m.b.Fire(m.s)
	if code != api.OK {
		return code
	}
	m.print(" ok %d\n", len(list))
	for _, f := range list {
		m.print("  %s %d", f.Name, f.Time)
		if f.Answer.Code == api.OK {
			m.print(" ok")
			m.submitted(f.Answer)
		} else {
			m.print(" refused %d", int(f.Answer.Code))
		}
		if m.codes != nil {
			m.codes[fmt.Sprint("fired ", int(f.Answer.Code), " ", f.Answer.Again)]++
		}
		m.print("\n")
		m.notes("    ", f.Answer.Notes)
	}
	return api.OK
}

func (m *model) run(id int) api.Errno {
	r, code := m.s.Run(id)
	if code != api.OK {
		return code
	}
	stands := strings.Split(" live succeeded failed cancelled expired", " ")
	m.print(" %s submitted %d", stands[r.Status], r.Submitted)
	if r.Status > 1 {
		m.print(" ended %d", r.Ended)
	}
	m.print("\n")
	for i, n := range r.Nodes {
		m.print("  %s %s %d", r.Plan.Nodes[i].Name, strings.Split(" waiting ready leased backoff done dead skipped", " ")[n.State], n.Attempts)
		if n.State == 3 {
			m.print(" token %d", n.Token)
		}
		if n.State == 5 {
			m.print(" %s", modelHex(n.Result))
		}
		m.print("\n")
	}
	return api.OK
}

func (m *model) segments() api.Errno {
	list, code := m.d.List()
	if code != api.OK {
		return code
	}
	m.print(" %d\n", len(list))
	for _, seg := range list {
		b, _ := m.d.Read(seg)
		m.print("  %d %d\n", seg, len(b))
	}
	return api.OK
}

func (m *model) notes(lead string, notes []api.Note) {
	for _, n := range notes {
		m.print("%s%d run %d %s\n", lead, n.Time, n.Run, modelNote(n))
	}
}

func modelNote(n api.Note) string {
	on := fmt.Sprintf(" node %d", n.Node)
	try := fmt.Sprintf("%s attempt %d", on, n.Attempt)
	due := fmt.Sprintf(" due %d", n.Due)
	lease := fmt.Sprintf("%s token %d%s", try, n.Token, due)
	switch n.Kind {
	case api.NoteSubmitted:
		return "submitted" + due
	case api.NoteReady:
		return "ready" + on
	case api.NoteLeased:
		return "leased" + lease
	case api.NoteBeaten:
		return "beaten" + lease
	case api.NoteDone:
		return "done" + try
	case api.NoteFailed:
		return "failed" + try + " " + map[int]string{api.WhyTold: "told", api.WhyClosed: "closed", api.WhyBeat: "beat"}[n.Why]
	case api.NoteBackoff:
		return "backoff" + try + due
	case api.NoteDead:
		return "dead" + try + " " + map[int]string{api.WhyBudget: "budget", api.WhyCancelled: "cancelled", api.WhyDeadline: "deadline"}[n.Why]
	case api.NoteSkipped:
		return "skipped" + on
	case api.NoteEnded:
		return "ended " + map[int]string{api.RunSucceeded: "succeeded", api.RunFailed: "failed", api.RunCancelled: "cancelled", api.RunExpired: "expired"}[n.Why]
	case api.NoteForgotten:
		return "forgotten"
	}
	panic(n.Kind)
}

func modelHex(b []byte) string {
	if len(b) == 0 {
		return "-"
	}
	return fmt.Sprintf("%x", b)
}

// alike holds that a script is answered as by the model.
func alike(t *testing.T, promise, script string) {
	t.Helper()
	same(t, promise, script, nil)
}

func same(t *testing.T, promise, script string, codes map[string]int) (string, api.Errno) {
	t.Helper()
	text, line, code := Run(script)
	wantText, wantLine, wantCode := modelRun(script, codes)
	if text != wantText || line != wantLine || code != wantCode {
		t.Fatalf("%s: the script\n%s\nis answered line %d, code %d\n%s\nwant line %d, code %d\n%s", promise, shown(script), line, code, shown(text), wantLine, wantCode, shown(wantText))
	}
	return text, code
}

func chance(seed int) *rand.Rand { return rand.New(rand.NewSource(int64(seed))) }

func one[T any](r *rand.Rand, list ...T) T { return list[r.Intn(len(list))] }

// anyPlan is a plan's lines, with its end, of a name.
func anyPlan(r *rand.Rand, name string) string {
	var b strings.Builder
	fmt.Fprintf(&b, "plan %s deadline %d\n", name, one(r, 20, 60, 300))
	nodes := 1 + r.Intn(4)
	for i := range nodes {
		fmt.Fprintf(&b, "node n%d lane %d budget %d close %d", i, r.Intn(2), 1+r.Intn(3), one(r, 5, 12, 40))
		if r.Intn(3) == 0 {
			fmt.Fprintf(&b, " beat %d", 1+r.Intn(6))
		}
		if r.Intn(2) == 0 {
			fmt.Fprintf(&b, " backoff %d to %d", 1+r.Intn(3), 4+r.Intn(9))
		}
		if r.Intn(3) == 0 {
			fmt.Fprintf(&b, " jitter %d", r.Intn(9))
		}
		b.WriteString(one(r, "\n", " # a node\n", "\n\n"))
		if i > 0 && r.Intn(3) > 0 {
			fmt.Fprintf(&b, "  %s n%d\n", one(r, "needs", "needs", "after"), r.Intn(i))
		}
	}
	b.WriteString(one(r, "end\n", "end # of it\n", " end\n"))
	return b.String()
}

// anyLine is one that often has something to do.
func anyLine(r *rand.Rand) string {
	token, run := 1+r.Intn(9), 1+r.Intn(5)
	switch r.Intn(30) {
	case 0, 1:
		return "submit " + one(r, "p", "q")
	case 2, 3:
		return "submit " + one(r, "p", "q") + " key " + one(r, "k", "l", "a@0", "b@60")
	case 4, 5, 6, 7:
		return fmt.Sprintf("poll %d by %d", r.Intn(2), r.Intn(99))
	case 8:
		return fmt.Sprint("beat ", token)
	case 9:
		return fmt.Sprint("fail ", token)
	case 10:
		return fmt.Sprint("complete ", token)
	case 11:
		return fmt.Sprintf("complete %d %x", token, r.Intn(1<<16)|1<<15)
	case 12, 13, 14:
		return fmt.Sprint("work ", token)
	case 15:
		return fmt.Sprint("cancel ", run)
	case 16:
		return fmt.Sprint("forget ", run)
	case 17:
		return fmt.Sprint("draw ", r.Intn(9))
	case 18, 19:
		return fmt.Sprint("tick ", one(r, 0, 1, 3, 9, 70))
	case 20:
		return "compact"
	case 21, 22:
		return fmt.Sprintf("crew %d seed %d", r.Intn(5), one(r, 0, 1, r.Intn(99), r.Int()>>1))
	case 23:
		return fmt.Sprintf("schedule %s plan %s from %d at %s", one(r, "a", "b", "c", "C"), one(r, "p", "q"), r.Intn(3)*60, one(r, "* * * * *", "*/2 * * * *", "0 0 30 2 *", "60 * * * *"))
	case 24:
		return "drop " + one(r, "a", "b", "c")
	case 25, 26:
		return "fire"
	case 27:
		return fmt.Sprint("run ", run)
	}
	return one(r, "now", "due", "segments", fmt.Sprint("ready ", r.Intn(3)))
}

// anyPower is a line by which a disk suffers.
func anyPower(r *rand.Rand) string {
	switch r.Intn(8) {
	case 0, 1, 2:
		return fmt.Sprint("arm ", r.Intn(9))
	case 3:
		return "crash"
	case 4, 5:
		line := "crash"
		for range 1 + r.Intn(4) {
			line += fmt.Sprint(" ", one(r, 0, 1, r.Intn(90), 4000, 1<<62))
		}
		return line
	case 6:
		return "reopen"
	}
	return fmt.Sprintf("spoil %d at %d mask %d", 1+r.Intn(3), r.Intn(200), r.Intn(600))
}

// anyScript is a script of so many lines behind two plans, that may be played.
func anyScript(r *rand.Rand, capacity, lines int, power bool) string {
	var b strings.Builder
	fmt.Fprintf(&b, "disk %d\n%s%s", capacity, anyPlan(r, "p"), anyPlan(r, "q"))
	for range lines {
		switch {
		case power && r.Intn(8) == 0:
			b.WriteString(anyPower(r))
		case r.Intn(40) == 0:
			b.WriteString(strings.TrimSuffix(anyPlan(r, one(r, "p", "q", "r")), "\n"))
		default:
			b.WriteString(anyLine(r))
		}
		b.WriteString(one(r, "\n", "\n", "\n", "\t# so\n", "\n\n", "\n# x\n"))
	}
	return b.String()
}
