package engine

import (
	"escapement/api"
	"escapement/wheel"
)

// mark is what a timer is for; of each there is one timer at most.
type mark struct {
	kind int
	api.Ref
}

// clock is the timers, and the time that they have come to: the engine's Now.
type clock struct {
	wheel *wheel.Wheel[mark]
	ids   map[mark]int // under which number the wheel has each
}

// newClock stands at a time that may be.
func newClock(now int) *clock {
	w, _ := wheel.New[mark](now)
	return &clock{wheel: w, ids: map[mark]int{}}
}

// set makes a timer, at a time that is not behind the clock.
func (c *clock) set(due int, m mark) { c.ids[m], _ = c.wheel.Schedule(due, m) }

// drop takes a timer away, if there is one.
func (c *clock) drop(m mark) {
	c.wheel.Cancel(c.ids[m])
	delete(c.ids, m)
}

// dropNode takes away the timers of a node.
func (c *clock) dropNode(ref api.Ref) {
	for _, kind := range [...]int{api.TimerClose, api.TimerBeat, api.TimerWake} {
		c.drop(mark{kind, ref})
	}
}

// dropRun takes away the timers of a run and of all its nodes.
func (c *clock) dropRun(k *kept) {
	c.drop(mark{api.TimerDeadline, k.ref(0)})
	for node := range k.leases {
		c.dropNode(k.ref(node))
	}
}

// next takes off the first timer that is due at a time, and stands at its time; if there is none, at that one.
func (c *clock) next(to int) (mark, bool) {
	x, ok := c.wheel.Next(to)
	delete(c.ids, x.What)
	return x.What, ok
}

// at is the time of a timer; 0 if there is none.
func (c *clock) at(m mark) int {
	x, _ := c.wheel.Find(c.ids[m])
	return x.Due
}
