package crew

import (
	"escapement/api"
	"escapement/durable"
	"escapement/pace"
)

// round is one that is under way.
type round struct {
	store   *durable.Store
	seed    uint64
	answers []api.Answer // to all that was asked so far
}

// holding is a worker that has a task.
type holding struct {
	worker int
	task   api.Task
}

// poll lets each worker poll once, and tells who has a task then, by their numbers. Beside a code that is not OK the round has ended.
func (r *round) poll(workers int) ([]holding, api.Errno) {
	var held []holding
	for worker := range workers {
		lane, ok := r.lane(worker)
		if !ok {
			continue
		}
		answer, code := r.ask(api.Op{Kind: api.OpPoll, Lane: lane, Worker: worker})
		if code != api.OK {
			return nil, code
		}
		if answer.Code == api.OK {
			held = append(held, holding{worker, answer.Task})
		}
	}
	return held, api.OK
}

// lane is the first one with something ready, from a worker's own on.
func (r *round) lane(worker int) (int, bool) {
	own := worker + int(r.seed%api.MaxLanes)
	for step := range api.MaxLanes {
		lane := (own + step) % api.MaxLanes
		if r.store.Ready(lane) > 0 {
			return lane, true
		}
	}
	return 0, false
}

// tell lets all who have a task tell how it ended. A code that is not OK has ended the round.
func (r *round) tell(held []holding, made [api.MaxWorkers][]byte) api.Errno {
	for _, h := range held {
		for _, o := range r.words(h, made[h.worker]) {
			if _, code := r.ask(o); code != api.OK {
				return code
			}
		}
	}
	return api.OK
}

// words are what a worker tells. With the seed 0 all complete; with others some fail, some show a sign of life first, and some are silent, so that a store meets all of that.
func (r *round) words(h holding, result []byte) []api.Op {
	beat := api.Op{Kind: api.OpBeat, Token: h.task.Token}
	complete := api.Op{Kind: api.OpComplete, Token: h.task.Token, Result: result}
	fail := api.Op{Kind: api.OpFail, Token: h.task.Token}
	if r.seed == 0 {
		return []api.Op{complete}
	}
	switch pace.Mix(r.seed, uint64(h.worker)) % 8 {
	case 0:
		return []api.Op{fail}
	case 1:
		return []api.Op{beat, complete}
	case 2:
		return nil
	}
	return []api.Op{complete}
}

// ask lets the store do an operation. Beside a code that is not OK the round has ended.
func (r *round) ask(o api.Op) (api.Answer, api.Errno) {
	answer := r.store.Do(o)
	if endsRound(answer.Code) {
		return api.Answer{}, answer.Code
	}
	r.answers = append(r.answers, answer)
	return answer, api.OK
}

// endsRound tells whether a refusal is of the disk, or of a store without one: those of the engine end nothing.
func endsRound(code api.Errno) bool {
	switch code {
	case api.ErrDiskDown, api.ErrDiskFull, api.ErrDurableDead, api.ErrJournalNumber:
		return true
	}
	return false
}
