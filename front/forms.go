package front

import (
	"errors"

	"escapement/api"
	"escapement/codec"
	"escapement/pack"
)

// mostCron is how many bytes a schedule's expression may have in a request.
const mostCron = 1024

// form is how the requests of one kind stand in bytes, behind their kind.
type form struct {
	put  func(w *pack.Writer, a api.Ask)
	take func(r *pack.Reader) ask
}

// forms are those of all kinds; a number that has none is no kind.
func forms() map[int]form {
	return map[int]form{
		api.AskOp:      opForm(),
		api.AskCompact: bareForm(askCompact{}),
		api.AskRun:     runForm(),
		api.AskAdd:     addForm(),
		api.AskDrop:    dropForm(),
		api.AskFire:    bareForm(askFire{}),
		api.AskCrew:    crewForm(),
	}
}

func kinds() pack.Form[int] { return pack.Numbers(api.AskOp, api.AskCrew) }

func titles() pack.Form[string] { return pack.Texts(api.MaxTitle) }

func opForm() form {
	ops := codec.Ops()
	return form{
		put:  func(w *pack.Writer, a api.Ask) { ops.Put(w, a.Op) },
		take: func(r *pack.Reader) ask { return askOp{ops.Take(r)} },
	}
}

// bareForm is that of a kind without fields: all its requests are one.
func bareForm(x ask) form {
	return form{
		put:  func(*pack.Writer, api.Ask) {},
		take: func(*pack.Reader) ask { return x },
	}
}

func runForm() form {
	runs := pack.Numbers(1, api.MaxCount)
	return form{
		put:  func(w *pack.Writer, a api.Ask) { runs.Put(w, a.Run) },
		take: func(r *pack.Reader) ask { return askRun{runs.Take(r)} },
	}
}

func addForm() form {
	names, crons, plans, times := titles(), pack.Texts(mostCron), codec.Plans(), pack.Numbers(0, api.MaxTime)
	put := func(w *pack.Writer, a api.Ask) {
		names.Put(w, a.Schedule.Name)
		crons.Put(w, a.Schedule.Cron)
		plans.Put(w, a.Schedule.Plan)
		times.Put(w, a.Schedule.From)
	}
	take := func(r *pack.Reader) ask {
		var s api.Schedule
		s.Name = names.Take(r)
		s.Cron = crons.Take(r)
		s.Plan = plans.Take(r)
		s.From = times.Take(r)
		return askAdd{s}
	}
	return form{put: put, take: take}
}

func dropForm() form {
	names := titles()
	return form{
		put:  func(w *pack.Writer, a api.Ask) { names.Put(w, a.Name) },
		take: func(r *pack.Reader) ask { return askDrop{names.Take(r)} },
	}
}

func crewForm() form {
	workers, seeds := pack.Numbers(0, api.MaxCount), pack.Words()
	put := func(w *pack.Writer, a api.Ask) {
		workers.Put(w, a.Workers)
		seeds.Put(w, a.Seed)
	}
	take := func(r *pack.Reader) ask {
		var x askCrew
		x.workers = workers.Take(r)
		x.seed = seeds.Take(r)
		return x
	}
	return form{put: put, take: take}
}

// lay is the bytes of a request's kind, and of what that uses.
func lay(a api.Ask) ([]byte, api.Errno) {
	w := pack.NewWriter(api.MaxLen)
	kinds().Put(w, a.Kind)
	if f, ok := forms()[a.Kind]; ok {
		f.put(w, a)
	}
	return w.Done()
}

// fault is why bytes are no request: what their reader has told.
type fault struct {
	code api.Errno
}

func (f *fault) Error() string { return "front: no request: " + f.code.Error() }

func (f *fault) Unwrap() error { return f.code }

// read takes a request off bytes, or tells the reader's fault.
func read(b []byte) (ask, error) {
	r := pack.NewReader(b)
	f, ok := forms()[kinds().Take(r)]
	if !ok {
		return nil, &fault{r.Err()}
	}
	x := f.take(r)
	if code := r.End(); code != api.OK {
		return nil, &fault{code}
	}
	return x, nil
}

// refusal is what the face says of what read has told: whichever fault it is, there is no such request.
func refusal(err error) api.Errno {
	var f *fault
	if errors.As(err, &f) {
		return api.ErrFrontAsk
	}
	return api.OK
}
