package world

import (
	"strings"

	"escapement/api"
	"escapement/source"
)

// script is one that was read: nothing of it has been played.
type script struct {
	capacity int    // of the disk
	place    int    // of the disk's line; 0: it has not come
	deeds    []deed // in their order
}

// reader is a script that is being read.
type reader struct {
	script
	forms map[string][]form
	plans map[string]api.Plan // by their names, the last one of each
}

// saying counts the lines that say something.
func saying(text string) int {
	count := 0
	for _, line := range strings.Split(text, "\n") {
		if len(wordsOf(line)) > 0 {
			count++
		}
	}
	return count
}

// read is what a text says, or the place of the first line that is wrong; 0: none is.
func read(text string) (script, int) {
	r := &reader{forms: forms(), plans: make(map[string]api.Plan)}
	lines := strings.Split(text, "\n")
reading:
	for i := 0; i < len(lines); i++ {
		words := wordsOf(lines[i])
		switch {
		case len(words) == 0:
			continue
		case r.place != 0 && words[0] == "plan":
			for end := i + 1; end < len(lines); end++ {
				if !isEnd(lines[end]) {
					continue
				}
				if wrong := r.addPlan(lines[i:end], i+1); wrong != 0 {
					return script{}, wrong
				}
				i = end
				continue reading
			}
			return script{}, i + 1
		case !r.add(words, i+1):
			return script{}, i + 1
		}
	}
	if r.place == 0 {
		return script{}, len(lines)
	}
	return r.script, 0
}

func isEnd(line string) bool {
	words := wordsOf(line)
	return len(words) == 1 && words[0] == "end"
}

// add takes a line that is none of a plan, and tells whether it may stand there.
func (r *reader) add(words []string, place int) bool {
	if r.place == 0 {
		return r.addDisk(words, place)
	}
	for _, f := range r.forms[words[0]] {
		x := deed{place: place, word: words[0], do: f.do}
		if x.take(f.partsOf(len(words)-1), words[1:], r.plans) {
			r.deeds = append(r.deeds, x)
			return true
		}
	}
	return false
}

// addDisk takes the line of the disk, which stands ahead of all others and has no form among theirs.
func (r *reader) addDisk(words []string, place int) bool {
	if len(words) != 2 || words[0] != "disk" {
		return false
	}
	n, ok := numberOf(words[1])
	if ok {
		r.capacity, r.place = n, place
	}
	return ok
}

// addPlan takes the lines of a plan, the first of which stands at a place, and tells which line of the script is wrong; 0: none is.
func (r *reader) addPlan(lines []string, place int) int {
	p, wrong, code := source.Parse(strings.Join(lines, "\n"))
	if code != api.OK {
		return placeIn(place, wrong)
	}
	r.plans[p.Name] = p
	return 0
}

// placeIn is where a line of a plan's source stands in the script; what is no line's fault is the plan's.
func placeIn(place, line int) int {
	if line == 0 {
		return place
	}
	return place + line - 1
}
