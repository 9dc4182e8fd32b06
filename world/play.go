package world

import (
	"strconv"
	"strings"

	"escapement/api"
	"escapement/cadence"
	"escapement/disk"
	"escapement/durable"
)

// world is what a script is played on, and what it has told so far.
type world struct {
	disk  *disk.Disk
	store *durable.Store // nil: the disk could not be opened
	book  *cadence.Book
	tasks map[int]api.Task // by tokens: what a poll of the script was last told with each
	text  strings.Builder
}

// play plays a script's lines on a disk; it is the transcript.
func play(d *disk.Disk, deeds []deed) string {
	w := &world{disk: d, tasks: make(map[int]api.Task)}
	w.open()
	for _, x := range deeds {
		w.do(x)
	}
	return w.text.String()
}

// do does what a line says, and tells what came of it.
func (w *world) do(x deed) {
	head := strconv.Itoa(x.place) + " " + x.word + " "
	told, code := x.do(w, x)
	if code != api.OK {
		goto refused
	}
	w.tell(head, told)
	return
refused:
	w.tell(head, report{words: refusal(code)})
}

func (w *world) tell(head string, told report) {
	w.text.WriteString(line(head, told.words...))
	for _, l := range told.below {
		w.text.WriteString(l)
	}
}

// open opens the store that the disk holds. Schedules stand in memory alone, so there are none.
func (w *world) open() (report, api.Errno) {
	var code api.Errno
	w.book = cadence.New()
	w.store, code = durable.Open(w.disk)
	if code != api.OK {
		return report{}, code
	}
	return report{words: []string{"ok", strconv.Itoa(w.store.Now())}}, api.OK
}

// asking is what a line does that asks the store: where there is none it is refused as by one that has lost its disk.
func asking(do doer) doer {
	return func(w *world, x deed) (report, api.Errno) {
		if w.store == nil {
			return report{}, api.ErrDurableDead
		}
		return do(w, x)
	}
}

// operate lets the store do an operation.
func (w *world) operate(o api.Op) (report, api.Errno) {
	a := w.store.Do(o)
	if a.Code != api.OK {
		return report{}, a.Code
	}
	told := report{words: []string{"ok"}, below: noteLines("  ", a.Notes)}
	switch o.Kind {
	case api.OpSubmit:
		told.words = submitted(a)
	case api.OpPoll:
		w.tasks[a.Task.Token] = a.Task
		told.words = append(told.words, taskWords(a.Task)...)
	}
	return told, api.OK
}
