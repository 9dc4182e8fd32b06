package history

import (
	"cmp"
	"slices"

	"escapement/api"
)

// debt is a note that must come next, as it is; but the Due of a NoteBackoff may be later, since nobody but the engine knows the luck.
type debt struct {
	api.Note
	latest int // of other kinds, which have no Due, 0
}

func (d debt) takes(n api.Note) bool {
	if n.Due < d.Due || n.Due > d.latest {
		return false
	}
	n.Due = d.Due
	return n == d.Note
}

// brought are the notes that a change brings, at a time; why is that of the dead.
func (b *Book) brought(time int, c api.Change, why int) []api.Note {
	var notes []api.Note
	for _, node := range c.Dead {
		_, attempts, _ := b.run.Node(node)
		notes = append(notes, api.Note{Kind: api.NoteDead, Time: time, Run: b.id, Node: node, Attempt: attempts, Why: why})
	}
	for _, node := range c.Skipped {
		notes = append(notes, api.Note{Kind: api.NoteSkipped, Time: time, Run: b.id, Node: node})
	}
	for _, node := range c.Ready {
		notes = append(notes, api.Note{Kind: api.NoteReady, Time: time, Run: b.id, Node: node})
	}
	if c.Status != api.RunLive {
		notes = append(notes, api.Note{Kind: api.NoteEnded, Time: time, Run: b.id, Why: c.Status})
	}
	return notes
}

// follow owes what a change brings.
func (b *Book) follow(time int, c api.Change, why int) {
	for _, n := range b.brought(time, c, why) {
		b.owed = append(b.owed, debt{Note: n})
	}
	if c.Status != api.RunLive {
		b.ended, b.timers = time, nil
		clear(b.tokens)
	}
}

// release lets a lease end.
func (b *Book) release(node int) {
	b.tokens[node] = 0
	b.drop(node, api.TimerClose, api.TimerBeat)
}

// stands tells whether there is such a node, in such a state; and its attempts.
func (b *Book) stands(node, state int) (int, bool) {
	is, attempts, code := b.run.Node(node)
	return attempts, code == api.OK && is == state
}

// by is the lesser of a time and the run's due.
func (b *Book) by(time int) int { return min(time, b.due) }

// first is the timer that comes first; a live run has its deadline at least.
func (b *Book) first() api.Timer {
	return slices.MinFunc(b.timers, func(x, y api.Timer) int { return cmp.Compare(x.Due, y.Due) })
}

// set makes a timer.
func (b *Book) set(due, kind, node int) {
	b.timers = append(b.timers, api.Timer{Due: due, Kind: kind, Run: b.id, Node: node})
}

// drop takes away those timers of a node that are of these kinds.
func (b *Book) drop(node int, kinds ...int) {
	b.timers = slices.DeleteFunc(b.timers, func(t api.Timer) bool { return t.Node == node && slices.Contains(kinds, t.Kind) })
}
