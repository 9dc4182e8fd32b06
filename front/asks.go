package front

import "escapement/api"

// ask is a request that was read: each kind has a type of its own, with just the fields that the kind uses.
type ask interface {
	whole() api.Ask
}

type askOp struct{ op api.Op }

type askCompact struct{}

type askRun struct{ run int }

type askAdd struct{ schedule api.Schedule }

type askDrop struct{ name string }

type askFire struct{}

type askCrew struct {
	workers int
	seed    uint64
}

func (x askOp) whole() api.Ask    { return api.Ask{Kind: api.AskOp, Op: x.op} }
func (askCompact) whole() api.Ask { return api.Ask{Kind: api.AskCompact} }
func (x askRun) whole() api.Ask   { return api.Ask{Kind: api.AskRun, Run: x.run} }
func (x askAdd) whole() api.Ask   { return api.Ask{Kind: api.AskAdd, Schedule: x.schedule} }
func (x askDrop) whole() api.Ask  { return api.Ask{Kind: api.AskDrop, Name: x.name} }
func (askFire) whole() api.Ask    { return api.Ask{Kind: api.AskFire} }

func (x askCrew) whole() api.Ask {
	return api.Ask{Kind: api.AskCrew, Workers: x.workers, Seed: x.seed}
}

// filled tells which fields of a request, beside its kind, are not zero; a list without things is.
func filled(a api.Ask) [6]bool {
	return [6]bool{opFilled(a.Op), a.Run != 0, scheduleFilled(a.Schedule), a.Name != "", a.Workers != 0, a.Seed != 0}
}

func opFilled(o api.Op) bool {
	numbers := [6]int{o.Kind, o.Lane, o.Worker, o.Token, o.Run, o.Ticks}
	return numbers != [6]int{} || o.Key != "" || o.Luck != 0 || len(o.Result) > 0 || planFilled(o.Plan)
}

func scheduleFilled(s api.Schedule) bool {
	return s.Name != "" || s.Cron != "" || s.From != 0 || planFilled(s.Plan)
}

func planFilled(p api.Plan) bool {
	return p.Name != "" || p.Deadline != 0 || len(p.Nodes) > 0
}
