package engine

import (
	"slices"
	"strings"

	"escapement/api"
	"escapement/codec"
	"escapement/pace"
	"escapement/plan"
	"escapement/run"
)

// turn is an operation on its way: what was told, and what will be answered.
type turn struct {
	*Engine
	op     api.Op
	answer api.Answer
}

// rows are what the kinds of operations do, by their numbers. A row takes of the tally as it likes; all else it leaves as it is till nothing can refuse it any more.
func rows() [api.OpTick + 1]func(*turn) api.Errno {
	return [...]func(*turn) api.Errno{
		api.OpSubmit:   (*turn).submit,
		api.OpPoll:     (*turn).poll,
		api.OpBeat:     (*turn).beat,
		api.OpComplete: (*turn).complete,
		api.OpFail:     (*turn).failed,
		api.OpCancel:   (*turn).cancel,
		api.OpForget:   (*turn).forget,
		api.OpDraw:     (*turn).draw,
		api.OpTick:     (*turn).tick,
	}
}

// Do does an operation.
func (e *Engine) Do(o api.Op) (answer api.Answer) {
	if code := codec.Check(o); code != api.OK {
		return api.Answer{Code: code}
	}
	before := e.tally
	defer func() {
		if answer.Code != api.OK {
			e.tally = before
		}
	}()
	t := &turn{Engine: e, op: o}
	if code := rows()[o.Kind](t); code != api.OK {
		return api.Answer{Code: code}
	}
	return t.answer
}

func (t *turn) submit() api.Errno {
	if k, ok := t.findKey(t.op.Key); ok {
		return t.again(k)
	}
	id := t.nextRun
	t.nextRun++
	t.tasks += len(t.op.Plan.Nodes)
	switch {
	case t.Now()+t.op.Plan.Deadline > api.MaxTime:
		return api.ErrEngineTime
	case len(t.runs) >= api.MaxRuns || t.tasks > api.MaxTasks:
		return api.ErrEngineFull
	case id > api.MaxCount:
		return api.ErrEngineNumber
	}
	r, change, code := run.New(t.op.Plan)
	if code != api.OK {
		return code
	}
	k := keep(r, id, t.op.Key, t.Now())
	t.runs = append(t.runs, k)
	t.answer.Run = id
	t.note(k, api.Note{Kind: api.NoteSubmitted, Due: k.due()})
	t.clock.set(k.due(), mark{api.TimerDeadline, k.ref(0)})
	t.change(k, change, 0)
	return api.OK
}

// again answers a submission whose key a run has.
func (t *turn) again(k *kept) api.Errno {
	if !plan.Same(k.plan, t.op.Plan) {
		return api.ErrEngineKey
	}
	t.answer.Run, t.answer.Again = k.id, true
	return api.OK
}

func (t *turn) poll() api.Errno {
	q := t.queues[t.op.Lane]
	ref, ok := q.Front()
	if !ok {
		return api.ErrEngineEmpty
	}
	token := t.nextToken
	t.nextToken++
	if token > api.MaxCount {
		return api.ErrEngineNumber
	}
	q.Pop()
	k, _ := t.find(ref.Run)
	attempt, _ := k.Lease(ref.Node)
	t.hand(k, ref.Node, lease{token, t.op.Worker})
	n := k.plan.Nodes[ref.Node]
	task := api.Task{Token: token, Run: ref.Run, Node: ref.Node, Name: strings.Clone(n.Name), Attempt: attempt}
	task.Until = t.setBy(k, ref.Node, api.TimerClose, n.Close)
	if n.Beat != 0 {
		task.BeatBy = t.setBy(k, ref.Node, api.TimerBeat, n.Beat)
	}
	task.Inputs, _ = k.Inputs(ref.Node)
	t.note(k, api.Note{Kind: api.NoteLeased, Node: ref.Node, Attempt: attempt, Token: token, Due: task.Until})
	t.answer.Task = task
	return api.OK
}

func (t *turn) beat() api.Errno {
	k, node, code := t.leased()
	if code != api.OK {
		return code
	}
	if beat := k.plan.Nodes[node].Beat; beat != 0 {
		t.clock.drop(mark{api.TimerBeat, k.ref(node)})
		due := t.setBy(k, node, api.TimerBeat, beat)
		t.note(k, api.Note{Kind: api.NoteBeaten, Node: node, Attempt: k.attempts(node), Token: t.op.Token, Due: due})
	}
	return api.OK
}

func (t *turn) complete() api.Errno {
	k, node, code := t.leased()
	if code != api.OK {
		return code
	}
	t.clock.dropNode(k.ref(node))
	t.release(k, node)
	t.note(k, api.Note{Kind: api.NoteDone, Node: node, Attempt: k.attempts(node)})
	change, _ := k.Finish(node, t.op.Result)
	t.change(k, change, 0)
	return api.OK
}

func (t *turn) failed() api.Errno {
	k, node, code := t.leased()
	if code != api.OK {
		return code
	}
	t.fail(k, node, api.WhyTold)
	return api.OK
}

func (t *turn) cancel() api.Errno {
	k, ok := t.find(t.op.Run)
	switch {
	case !ok:
		return api.ErrEngineRun
	case !k.live():
		return api.ErrEngineEnded
	}
	t.stop(k, api.RunCancelled, api.WhyCancelled)
	return api.OK
}

func (t *turn) forget() api.Errno {
	k, ok := t.find(t.op.Run)
	switch {
	case !ok:
		return api.ErrEngineRun
	case k.live():
		return api.ErrEngineEnded
	}
	t.runs = slices.DeleteFunc(t.runs, func(other *kept) bool { return other == k })
	t.note(k, api.Note{Kind: api.NoteForgotten})
	return api.OK
}

func (t *turn) draw() api.Errno {
	t.luck = pace.Mix(t.luck, t.op.Luck)
	return api.OK
}

func (t *turn) tick() api.Errno {
	end := api.MaxTime
	if t.op.Ticks < end-t.Now() { // both together may be more than a number holds
		end = t.Now() + t.op.Ticks
	}
	for m, ok := t.clock.next(end); ok; m, ok = t.clock.next(end) {
		t.handle(m)
	}
	return api.OK
}

// leased finds the node that is leased under the operation's token.
func (t *turn) leased() (*kept, int, api.Errno) {
	ref, ok := t.leases[t.op.Token]
	if !ok {
		return nil, 0, api.ErrEngineToken
	}
	k, _ := t.find(ref.Run)
	return k, ref.Node, api.OK
}
