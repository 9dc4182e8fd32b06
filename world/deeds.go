package world

import (
	"strconv"
	"strings"

	"escapement/api"
	"escapement/crew"
)

// work completes a task as an honest worker does, who must know it: a token that no poll of the script was told is not even asked for.
func (w *world) work(x deed) (report, api.Errno) {
	task, ok := w.tasks[x.numbers[0]]
	if !ok {
		return report{}, api.ErrEngineToken
	}
	result := crew.Work(task.Name, task.Inputs)
	return w.operate(api.Op{Kind: api.OpComplete, Token: task.Token, Result: result})
}

func (w *world) compact(deed) (report, api.Errno) { return done(w.store.Compact()) }

func (w *world) crew(x deed) (report, api.Errno) {
	answers, code := crew.Round(w.store, x.numbers[0], uint64(x.numbers[1]))
	if code != api.OK {
		return report{}, code
	}
	told := report{words: []string{"ok", strconv.Itoa(len(answers))}}
	for _, a := range answers {
		told.below = append(told.below, answerLines(a)...)
	}
	return told, api.OK
}

func (w *world) schedule(x deed) (report, api.Errno) {
	cron := strings.Join(x.cron, " ")
	return done(w.book.Add(api.Schedule{Name: x.name, Cron: cron, Plan: x.plan, From: x.numbers[0]}))
}

func (w *world) drop(x deed) (report, api.Errno) { return done(w.book.Drop(x.name)) }

func (w *world) fire(deed) (report, api.Errno) {
	fired, code := w.book.Fire(w.store)
	if code != api.OK {
		return report{}, code
	}
	told := report{words: []string{"ok", strconv.Itoa(len(fired))}}
	for _, f := range fired {
		told.below = append(told.below, firedLines(f)...)
	}
	return told, api.OK
}

func (w *world) arm(x deed) (report, api.Errno) { return done(w.disk.Arm(x.numbers[0])) }

func (w *world) crash(x deed) (report, api.Errno) {
	w.disk.Crash(x.numbers)
	return w.open()
}

func (w *world) reopen(deed) (report, api.Errno) { return w.open() }

func (w *world) spoil(x deed) (report, api.Errno) {
	return done(w.disk.Spoil(x.numbers[0], x.numbers[1], byte(x.numbers[2])))
}

func (w *world) now(deed) (report, api.Errno) { return telling(strconv.Itoa(w.store.Now())) }

func (w *world) ready(x deed) (report, api.Errno) {
	return telling(strconv.Itoa(w.store.Ready(x.numbers[0])))
}

func (w *world) due(deed) (report, api.Errno) {
	t, ok := w.store.Due()
	if !ok {
		return telling("none")
	}
	return telling(strconv.Itoa(t))
}

func (w *world) run(x deed) (report, api.Errno) {
	s, code := w.store.Run(x.numbers[0])
	if code != api.OK {
		return report{}, code
	}
	return runReport(s), api.OK
}

func (w *world) segments(deed) (report, api.Errno) {
	list, code := w.disk.List()
	if code != api.OK {
		return report{}, code
	}
	told := report{words: []string{strconv.Itoa(len(list))}}
	for _, seg := range list {
		b, code := w.disk.Read(seg)
		if code != api.OK {
			return report{}, code
		}
		told.below = append(told.below, line("  ", strconv.Itoa(seg), strconv.Itoa(len(b))))
	}
	return told, api.OK
}
