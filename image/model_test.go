package image

import (
	"bytes"

	"escapement/api"
	"escapement/engine"
)

// The model: an image laid by hand, after the tables of chapters 2, 12 and 15, without packages pack and codec, and taken apart without a look at anything. Bytes are an image just if what they are taken apart into may be, and is laid as these bytes.

// spot is where a field lies in an image.
type spot struct {
	name     string
	from, to int
}

// scribe lays fields, and notes where they lie.
type scribe struct {
	b     []byte
	spots []spot
}

func (x *scribe) lay(name string, b ...byte) {
	from := len(x.b)
	x.b = append(x.b, b...)
	x.spots = append(x.spots, spot{name, from, len(x.b)})
}

func (x *scribe) number(name string, n int) { x.lay(name, numberOf(uint64(n))...) }

func (x *scribe) text(name, text string) {
	x.lay(name, append(numberOf(uint64(len(text))), text...)...)
}

func (x *scribe) numbers(name string, list []int) {
	x.number("count of "+name, len(list))
	for _, n := range list {
		x.number(name, n)
	}
}

func numberOf(n uint64) (b []byte) {
	for n/128 > 0 {
		b = append(b, byte(128+n%128))
		n /= 128
	}
	return append(b, byte(n))
}

func (x *scribe) plan(p api.Plan) {
	x.text("Plan.Name", p.Name)
	x.number("Plan.Deadline", p.Deadline)
	x.number("count of Plan.Nodes", len(p.Nodes))
	for _, n := range p.Nodes {
		x.text("Name", n.Name)
		for i, field := range []int{n.Lane, n.Budget, n.Close, n.Beat, n.Base, n.Cap, n.Jitter} {
			x.number([]string{"Lane", "Budget", "Close", "Beat", "Base", "Cap", "Jitter"}[i], field)
		}
		x.numbers("Needs", n.Needs)
		x.numbers("After", n.After)
	}
}

func (x *scribe) run(r api.RunState) {
	x.number("ID", r.ID)
	x.text("Key", r.Key)
	x.plan(r.Plan)
	x.number("Status", r.Status)
	x.number("Submitted", r.Submitted)
	x.number("Ended", r.Ended)
	x.number("count of Nodes", len(r.Nodes))
	for _, n := range r.Nodes {
		x.number("State", n.State)
		x.number("Attempts", n.Attempts)
		x.number("Token", n.Token)
		x.number("Worker", n.Worker)
		x.text("Result", string(n.Result))
	}
}

func (x *scribe) image(s api.State) {
	x.lay("letter", 73)
	x.number("Now", s.Now)
	var luck []byte
	for rest := s.Luck; len(luck) < 8; rest /= 256 {
		luck = append(luck, byte(rest%256))
	}
	x.lay("Luck", luck...)
	x.number("NextRun", s.NextRun)
	x.number("NextToken", s.NextToken)
	x.number("count of Runs", len(s.Runs))
	for _, r := range s.Runs {
		x.run(r)
	}
	x.number("count of Ready", len(s.Ready))
	for _, ref := range s.Ready {
		x.number("Ready.Run", ref.Run)
		x.number("Ready.Node", ref.Node)
	}
	x.number("count of Timers", len(s.Timers))
	for _, timer := range s.Timers {
		x.number("Due", timer.Due)
		x.number("Kind", timer.Kind)
		x.number("Timer.Run", timer.Run)
		x.number("Timer.Node", timer.Node)
	}
}

// laid is the bytes of a state, whether it may be or not.
func laid(s api.State) []byte {
	var x scribe
	x.image(s)
	return x.b
}

// spots are where the fields of a state lie in its bytes.
func spots(s api.State) []spot {
	var x scribe
	x.image(s)
	return x.spots
}

// apart takes bytes apart; bad says that they end too early.
type apart struct {
	left []byte
	bad  bool
}

func (x *apart) bytes(n int) []byte {
	if n < 0 || n > len(x.left) {
		x.left, x.bad = nil, true
		return nil
	}
	b := x.left[:n]
	x.left = x.left[n:]
	return b
}

func (x *apart) number() (n int) {
	for at := 0; ; at += 7 {
		b := x.bytes(1)
		if b == nil {
			return 0
		}
		n += int(b[0]%128) << at
		if b[0] < 128 {
			return n
		}
	}
}

func (x *apart) text() string { return string(x.bytes(x.number())) }

func manyOf[T any](x *apart, one func() T) (list []T) {
	for n := x.number(); n > 0 && !x.bad; n-- {
		list = append(list, one())
	}
	return list
}

func (x *apart) plan() (p api.Plan) {
	p.Name, p.Deadline = x.text(), x.number()
	p.Nodes = manyOf(x, func() (n api.Node) {
		n.Name = x.text()
		for _, field := range []*int{&n.Lane, &n.Budget, &n.Close, &n.Beat, &n.Base, &n.Cap, &n.Jitter} {
			*field = x.number()
		}
		n.Needs = manyOf(x, x.number)
		n.After = manyOf(x, x.number)
		return n
	})
	return p
}

func (x *apart) run() (r api.RunState) {
	r.ID, r.Key, r.Plan = x.number(), x.text(), x.plan()
	r.Status, r.Submitted, r.Ended = x.number(), x.number(), x.number()
	r.Nodes = manyOf(x, func() (n api.NodeState) {
		n.State, n.Attempts, n.Token, n.Worker = x.number(), x.number(), x.number(), x.number()
		n.Result = []byte(x.text())
		return n
	})
	return r
}

func (x *apart) image() (s api.State) {
	x.bytes(1)
	s.Now = x.number()
	for i, b := range x.bytes(8) {
		s.Luck += uint64(b) << (8 * i)
	}
	s.NextRun, s.NextToken = x.number(), x.number()
	s.Runs = manyOf(x, x.run)
	s.Ready = manyOf(x, func() api.Ref { return api.Ref{Run: x.number(), Node: x.number()} })
	s.Timers = manyOf(x, func() api.Timer {
		return api.Timer{Due: x.number(), Kind: x.number(), Run: x.number(), Node: x.number()}
	})
	return s
}

// meant is the state of an image, as the model has it.
func meant(b []byte) (api.State, api.Errno) {
	x := &apart{left: b}
	s := x.image()
	if x.bad || !bytes.Equal(laid(s), b) || !mayBe(s) {
		return api.State{}, api.ErrImageBytes
	}
	return s, api.OK
}

func mayBe(s api.State) bool {
	_, code := engine.From(s)
	return code == api.OK
}

// fits tells whether each field may be so, whatever the state as a whole; of plans only numbers are looked at.
func fits(s api.State) bool {
	fit := true
	within := func(n, least, most int) { fit = fit && n >= least && n <= most }
	within(s.Now, 0, api.MaxTime)
	within(s.NextRun, 1, api.MaxCount+1)
	within(s.NextToken, 1, api.MaxCount+1)
	within(len(s.Runs), 0, 256)
	within(len(s.Ready), 0, 1024)
	within(len(s.Timers), 0, 4096)
	for _, r := range s.Runs {
		within(r.ID, 1, api.MaxCount)
		within(len(r.Key), 0, 40)
		within(r.Plan.Deadline, 1, api.MaxDelay)
		within(r.Status, 1, 5)
		within(r.Submitted, 0, api.MaxTime)
		within(r.Ended, 0, api.MaxTime)
		within(len(r.Nodes), 0, 64)
		for _, n := range r.Nodes {
			within(n.State, 1, 7)
			within(n.Attempts, 0, 100)
			within(n.Token, 0, api.MaxCount)
			within(n.Worker, 0, api.MaxCount)
			within(len(n.Result), 0, 64)
		}
	}
	for _, x := range s.Ready {
		within(x.Run, 1, api.MaxCount)
		within(x.Node, 0, 63)
	}
	for _, x := range s.Timers {
		within(x.Due, 0, api.MaxTime)
		within(x.Kind, 1, 4)
		within(x.Run, 1, api.MaxCount)
		within(x.Node, 0, 63)
	}
	return fit
}
