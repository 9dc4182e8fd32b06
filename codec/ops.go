package codec

import (
	"slices"

	"escapement/api"
	"escapement/pack"
)

// part is a field of an operation, beside its kind.
type part int

const (
	partPlan part = iota
	partKey
	partLane
	partWorker
	partToken
	partResult
	partRun
	partLuck
	partTicks
	partCount
)

// partsOf are the parts that a kind uses, in their order. Each kind uses one at least: a number without parts is no kind.
func partsOf(kind int) []part {
	switch kind {
	case api.OpSubmit:
		return []part{partPlan, partKey}
	case api.OpPoll:
		return []part{partLane, partWorker}
	case api.OpBeat, api.OpFail:
		return []part{partToken}
	case api.OpComplete:
		return []part{partToken, partResult}
	case api.OpCancel, api.OpForget:
		return []part{partRun}
	case api.OpDraw:
		return []part{partLuck}
	case api.OpTick:
		return []part{partTicks}
	}
	return nil
}

// opFields is the form of an operation's kind and parts. What is put is not looked at, what is taken may be: each part is looked at as it is taken.
func opFields() pack.Form[api.Op] {
	kind, ways := pack.Numbers(api.OpSubmit, api.OpTick), allWays()
	put := func(w *pack.Writer, o api.Op) {
		kind.Put(w, o.Kind)
		for _, p := range partsOf(o.Kind) {
			ways[p].put(operation(o), w)
		}
	}
	take := func(r *pack.Reader) api.Op {
		o := operation{Kind: kind.Take(r)}
		for _, p := range partsOf(o.Kind) {
			ways[p].take(&o, r)
		}
		return api.Op(o)
	}
	return pack.Make(put, take)
}

// othersEmpty tells whether all parts are zero but those that are used.
func othersEmpty(o api.Op, used []part) bool {
	empty := [partCount]bool{
		partPlan:   o.Plan.Name == "" && o.Plan.Deadline == 0 && len(o.Plan.Nodes) == 0,
		partKey:    o.Key == "",
		partLane:   o.Lane == 0,
		partWorker: o.Worker == 0,
		partToken:  o.Token == 0,
		partResult: len(o.Result) == 0,
		partRun:    o.Run == 0,
		partLuck:   o.Luck == 0,
		partTicks:  o.Ticks == 0,
	}
	for p := range partCount {
		if !empty[p] && !slices.Contains(used, p) {
			return false
		}
	}
	return true
}

// partsHold tells whether the parts may be: their forms say it, so that their bounds stand in one place. A plan is passed over, since its faults have numbers of their own.
func partsHold(o api.Op, used []part) bool {
	ways, w := allWays(), pack.NewWriter(mostBytes)
	for _, p := range used {
		if p != partPlan {
			ways[p].put(operation(o), w)
		}
	}
	_, code := w.Done()
	return code == api.OK
}
