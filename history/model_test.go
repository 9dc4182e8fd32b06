package history

import (
	"slices"

	"escapement/api"
)

// The model: chapter 16 (and, of chapters 9 and 13, what it refers to), without packages run, pace and plan. It lists all notes that may come at a time; a note may come just if it is one of them.

const (
	waiting = 1 + iota
	ready
	leased
	backoff
	done
	dead
	skipped
)

const (
	live = 1 + iota
	succeeded
	failed
	cancelled
	expired
)

// span is a note whose Due and Token may be anything within bounds.
type span struct {
	api.Note
	latest  int // Due is from the note's on
	highest int // Token likewise
}

func just(n api.Note) span { return span{n, n.Due, n.Token} }

func (s span) has(n api.Note) bool {
	if n.Due < s.Due || n.Due > s.latest || n.Token < s.Token || n.Token > s.highest {
		return false
	}
	n.Due, n.Token = s.Due, s.Token
	return n == s.Note
}

// option is a note that may come, and what is done with it: the notes that this brings, it itself ahead of all.
type option struct {
	span
	step func(m *model, n api.Note) []span
}

type alarm struct{ time, kind, node int }

type model struct {
	id                      int
	p                       api.Plan
	state, attempts, tokens []int
	status                  int // 0: it was not submitted
	submitted, due, ended   int
	alarms                  []alarm // as they were made
	owed                    []span
	last, token             int
	closed, gone            bool // NoteEnded, NoteForgotten were taken
}

func newModel(id int, p api.Plan) *model { return &model{id: id, p: p} }

func (m *model) clone() *model {
	c := *m
	c.state, c.attempts, c.tokens = slices.Clone(m.state), slices.Clone(m.attempts), slices.Clone(m.tokens)
	c.alarms, c.owed = slices.Clone(m.alarms), slices.Clone(m.owed)
	return &c
}

func isSettled(state int) bool { return state == done || state == dead || state == skipped }

// all tells whether these nodes stand in one of these states.
func (m *model) all(nodes []int, states ...int) bool {
	return !slices.ContainsFunc(nodes, func(i int) bool { return !slices.Contains(states, m.state[i]) })
}

// least is the least waiting node of which this holds; -1 if there is none.
func (m *model) least(holds func(n api.Node) bool) int {
	for i, n := range m.p.Nodes {
		if m.state[i] == waiting && holds(n) {
			return i
		}
	}
	return -1
}

// settle lets the run settle on, and tells the notes of it, behind those of the dead.
func (m *model) settle(at int, notes []span) []span {
	add := func(n api.Note) {
		n.Time, n.Run = at, m.id
		notes = append(notes, just(n))
	}
	lost := func(n api.Node) bool { return !m.all(n.Needs, waiting, ready, leased, backoff, done) }
	for i := m.least(lost); i >= 0; i = m.least(lost) {
		m.state[i] = skipped
		add(api.Note{Kind: 9, Node: i})
	}
	free := func(n api.Node) bool { return m.all(n.Needs, done) && m.all(n.After, done, dead, skipped) }
	for i := m.least(free); i >= 0; i = m.least(free) {
		m.state[i] = ready
		add(api.Note{Kind: 2, Node: i})
	}
	if slices.ContainsFunc(m.state, func(s int) bool { return !isSettled(s) }) {
		return notes
	}
	m.status = succeeded
	if slices.ContainsFunc(m.state, func(s int) bool { return s != done }) {
		m.status = failed
	}
	return m.end(at, notes)
}

func (m *model) end(at int, notes []span) []span {
	m.ended, m.alarms = at, nil
	return append(notes, just(api.Note{Kind: 10, Time: at, Run: m.id, Why: m.status}))
}

func (m *model) by(time int) int {
	if time > m.due {
		return m.due
	}
	return time
}

// quiet takes away the alarms of a node that are of these kinds.
func (m *model) quiet(node int, kinds ...int) {
	var left []alarm
	for _, a := range m.alarms {
		if a.node != node || !slices.Contains(kinds, a.kind) {
			left = append(left, a)
		}
	}
	m.alarms = left
}

// next is the first alarm.
func (m *model) next() alarm {
	first := m.alarms[0]
	for _, a := range m.alarms {
		if a.time < first.time {
			first = a
		}
	}
	return first
}

func submitStep(m *model, n api.Note) []span {
	m.status, m.submitted, m.due = live, n.Time, n.Time+m.p.Deadline
	for range m.p.Nodes {
		m.state, m.attempts, m.tokens = append(m.state, waiting), append(m.attempts, 0), append(m.tokens, 0)
	}
	m.alarms = []alarm{{m.due, api.TimerDeadline, -1}}
	return m.settle(n.Time, []span{just(api.Note{Kind: 1, Time: n.Time, Run: m.id, Due: m.due})})
}

func leaseStep(i int) func(m *model, n api.Note) []span {
	return func(m *model, n api.Note) []span {
		free := m.token + 1
		m.state[i], m.tokens[i], m.token = leased, n.Token, n.Token
		m.attempts[i]++
		close := m.by(n.Time + m.p.Nodes[i].Close)
		m.alarms = append(m.alarms, alarm{close, api.TimerClose, i})
		if m.p.Nodes[i].Beat > 0 {
			m.alarms = append(m.alarms, alarm{m.by(n.Time + m.p.Nodes[i].Beat), api.TimerBeat, i})
		}
		return []span{{api.Note{Kind: 3, Time: n.Time, Run: m.id, Node: i, Attempt: m.attempts[i], Token: free, Due: close}, close, 1 << 40}}
	}
}

func beatStep(i int) func(m *model, n api.Note) []span {
	return func(m *model, n api.Note) []span {
		due := m.by(n.Time + m.p.Nodes[i].Beat)
		m.quiet(i, api.TimerBeat)
		m.alarms = append(m.alarms, alarm{due, api.TimerBeat, i})
		return []span{just(api.Note{Kind: 4, Time: n.Time, Run: m.id, Node: i, Attempt: m.attempts[i], Token: m.tokens[i], Due: due})}
	}
}

func doneStep(i int) func(m *model, n api.Note) []span {
	return func(m *model, n api.Note) []span {
		m.state[i] = done
		m.quiet(i, api.TimerClose, api.TimerBeat)
		return m.settle(n.Time, []span{just(api.Note{Kind: 5, Time: n.Time, Run: m.id, Node: i, Attempt: m.attempts[i]})})
	}
}

// delay doubles the first backoff once for each attempt behind the first one.
func delay(n api.Node, attempt int) int {
	ticks := n.Base
	for range attempt - 1 {
		if ticks *= 2; ticks > n.Cap {
			return n.Cap
		}
	}
	return ticks
}

func failStep(i, why int) func(m *model, n api.Note) []span {
	return func(m *model, n api.Note) []span {
		x, attempt := m.p.Nodes[i], m.attempts[i]
		m.quiet(i, api.TimerClose, api.TimerBeat)
		notes := []span{just(api.Note{Kind: 6, Time: n.Time, Run: m.id, Node: i, Attempt: attempt, Why: why})}
		if attempt < x.Budget {
			m.state[i] = backoff
			from := n.Time + delay(x, attempt)
			return append(notes, span{api.Note{Kind: 7, Time: n.Time, Run: m.id, Node: i, Attempt: attempt, Due: m.by(from)}, m.by(from + x.Jitter), 0})
		}
		m.state[i] = dead
		return m.settle(n.Time, append(notes, just(api.Note{Kind: 8, Time: n.Time, Run: m.id, Node: i, Attempt: attempt, Why: 4})))
	}
}

func wakeStep(i int) func(m *model, n api.Note) []span {
	return func(m *model, n api.Note) []span {
		m.state[i] = ready
		m.quiet(i, api.TimerWake)
		return []span{just(api.Note{Kind: 2, Time: n.Time, Run: m.id, Node: i})}
	}
}

func stopStep(status, why int) func(m *model, n api.Note) []span {
	return func(m *model, n api.Note) []span {
		var notes, rest []span
		for i, s := range m.state {
			switch s {
			case ready, leased, backoff:
				m.state[i] = dead
				notes = append(notes, just(api.Note{Kind: 8, Time: n.Time, Run: m.id, Node: i, Attempt: m.attempts[i], Why: why}))
			case waiting:
				m.state[i] = skipped
				rest = append(rest, just(api.Note{Kind: 9, Time: n.Time, Run: m.id, Node: i}))
			}
		}
		m.status = status
		return m.end(n.Time, append(notes, rest...))
	}
}

func forgetStep(m *model, n api.Note) []span {
	return []span{just(api.Note{Kind: 11, Time: n.Time, Run: m.id})}
}

// of is the option of a step at a time: it is told by what the step does to a model of its own.
func (m *model) of(at int, step func(m *model, n api.Note) []span) option {
	return option{step(m.clone(), api.Note{Time: at})[0], step}
}

// bounds are the times at which the next note may come; none, if the first is above the last.
func (m *model) bounds() (from, to int) {
	switch {
	case m.gone:
		return 1, 0
	case m.status == 0:
		return 0, 1<<62 - m.p.Deadline
	case len(m.owed) > 0:
		return m.last, m.last
	case m.status != live:
		return m.last, 1 << 62
	}
	return m.last, m.next().time
}

// options are all notes that may come at a time.
func (m *model) options(at int) (list []option) {
	if from, to := m.bounds(); at < from || at > to {
		return nil
	}
	switch {
	case m.status == 0:
		return []option{m.of(at, submitStep)}
	case len(m.owed) > 0:
		return []option{{span: m.owed[0]}}
	case m.status != live:
		return []option{m.of(at, forgetStep)}
	case at == m.next().time:
		return []option{m.of(at, comes(m.next()))}
	}
	for i, s := range m.state {
		switch s {
		case ready:
			if m.token < 1<<40 {
				list = append(list, m.of(at, leaseStep(i)))
			}
		case leased:
			list = append(list, m.of(at, doneStep(i)), m.of(at, failStep(i, 1)))
			if m.p.Nodes[i].Beat > 0 {
				list = append(list, m.of(at, beatStep(i)))
			}
		}
	}
	return append(list, m.of(at, stopStep(cancelled, 5)))
}

// comes is what an alarm does.
func comes(a alarm) func(m *model, n api.Note) []span {
	switch a.kind {
	case api.TimerDeadline:
		return stopStep(expired, 6)
	case api.TimerClose:
		return failStep(a.node, 2)
	case api.TimerBeat:
		return failStep(a.node, 3)
	}
	return wakeStep(a.node)
}

// add takes a note, or tells why not.
func (m *model) add(n api.Note) api.Errno {
	if m.gone {
		return api.ErrHistoryRest
	}
	for _, o := range m.options(n.Time) {
		if !o.has(n) {
			continue
		}
		if len(m.owed) > 0 {
			m.owed = m.owed[1:]
		} else {
			m.owed = o.step(m, n)[1:]
		}
		if n.Kind == 7 {
			m.alarms = append(m.alarms, alarm{n.Due, api.TimerWake, n.Node})
		}
		m.last, m.closed, m.gone = n.Time, m.closed || n.Kind == 10, n.Kind == 11
		return api.OK
	}
	return api.ErrHistoryNote
}

// run is what Run is to tell.
func (m *model) run() api.RunState {
	s := api.RunState{ID: m.id, Plan: m.p, Status: m.status, Submitted: m.submitted, Ended: m.ended}
	for i, state := range m.state {
		n := api.NodeState{State: state, Attempts: m.attempts[i]}
		if state == leased {
			n.Token = m.tokens[i]
		}
		s.Nodes = append(s.Nodes, n)
	}
	return s
}
