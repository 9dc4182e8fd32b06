package history

import (
	"maps"
	"slices"
	"sync"

	"escapement/api"
)

// Split takes notes apart, by their runs.
func Split(notes []api.Note) ([]int, [][]api.Note) {
	of := map[int][]api.Note{}
	for _, n := range notes {
		of[n.Run] = append(of[n.Run], n)
	}
	runs := slices.Sorted(maps.Keys(of))
	var lists [][]api.Note
	for _, id := range runs {
		lists = append(lists, of[id])
	}
	return runs, lists
}

// task is a story that is to be judged, finding what came of it; both name its place, since they come in any order.
type task struct {
	place int
	story api.Story
}

type finding struct {
	place   int
	verdict api.Verdict
}

// Audit judges stories, so many at a time.
func Audit(stories []api.Story, workers int) ([]api.Verdict, api.Errno) {
	if workers < 1 || workers > api.MaxWorkers {
		return nil, api.ErrArg
	}
	todo := make(chan task)
	found := make(chan finding, len(stories)) // room for all, so that no judge waits for a reader
	var judges sync.WaitGroup
	for range workers {
		judges.Add(1)
		go func() {
			defer judges.Done()
			for t := range todo {
				found <- finding{t.place, judge(t.story)}
			}
		}()
	}
	for place, story := range stories {
		todo <- task{place, story}
	}
	close(todo)
	judges.Wait()
	close(found)
	verdicts := make([]api.Verdict, len(stories))
	for f := range found {
		verdicts[f.place] = f.verdict
	}
	return verdicts, api.OK
}

// judge looks for the first note that may not be.
func judge(s api.Story) api.Verdict {
	b, code := New(s.Run, s.Plan)
	if code != api.OK {
		return api.Verdict{Run: s.Run, Code: code}
	}
	for i, n := range s.Notes {
		if code := b.Add(n); code != api.OK {
			return api.Verdict{Run: s.Run, Place: i + 1, Code: code}
		}
	}
	return api.Verdict{Run: s.Run}
}
