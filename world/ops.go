package world

import "escapement/api"

// operation lets the store do the operation that a line says.
func operation(of func(x deed) api.Op) doer {
	return asking(func(w *world, x deed) (report, api.Errno) { return w.operate(of(x)) })
}

func submit(x deed) api.Op { return api.Op{Kind: api.OpSubmit, Plan: x.plan, Key: x.name} }

func poll(x deed) api.Op {
	return api.Op{Kind: api.OpPoll, Lane: x.numbers[0], Worker: x.numbers[1]}
}

func beat(x deed) api.Op { return api.Op{Kind: api.OpBeat, Token: x.numbers[0]} }

func fail(x deed) api.Op { return api.Op{Kind: api.OpFail, Token: x.numbers[0]} }

func complete(x deed) api.Op {
	return api.Op{Kind: api.OpComplete, Token: x.numbers[0], Result: x.bytes}
}

func cancel(x deed) api.Op { return api.Op{Kind: api.OpCancel, Run: x.numbers[0]} }

func forget(x deed) api.Op { return api.Op{Kind: api.OpForget, Run: x.numbers[0]} }

func draw(x deed) api.Op { return api.Op{Kind: api.OpDraw, Luck: uint64(x.numbers[0])} }

func tick(x deed) api.Op { return api.Op{Kind: api.OpTick, Ticks: x.numbers[0]} }
