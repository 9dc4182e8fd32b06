package world

import (
	"strconv"
	"strings"

	"escapement/api"
)

// The words for how a run and a node stand, and for why something came; they stand at api's numbers.
var (
	runStands  = [...]string{api.RunLive: "live", api.RunSucceeded: "succeeded", api.RunFailed: "failed", api.RunCancelled: "cancelled", api.RunExpired: "expired"}
	nodeStands = [...]string{api.NodeWaiting: "waiting", api.NodeReady: "ready", api.NodeLeased: "leased", api.NodeBackoff: "backoff", api.NodeDone: "done", api.NodeDead: "dead", api.NodeSkipped: "skipped"}
	whys       = [...]string{api.WhyTold: "told", api.WhyClosed: "closed", api.WhyBeat: "beat", api.WhyBudget: "budget", api.WhyCancelled: "cancelled", api.WhyDeadline: "deadline"}
)

// shape is how the notes of a kind are told: by which word, and with which of their numbers.
type shape struct {
	word                      string
	node, attempt, token, due bool
}

var shapes = [...]shape{
	api.NoteSubmitted: {word: "submitted", due: true},
	api.NoteReady:     {word: "ready", node: true},
	api.NoteLeased:    {word: "leased", node: true, attempt: true, token: true, due: true},
	api.NoteBeaten:    {word: "beaten", node: true, attempt: true, token: true, due: true},
	api.NoteDone:      {word: "done", node: true, attempt: true},
	api.NoteFailed:    {word: "failed", node: true, attempt: true},
	api.NoteBackoff:   {word: "backoff", node: true, attempt: true, due: true},
	api.NoteDead:      {word: "dead", node: true, attempt: true},
	api.NoteSkipped:   {word: "skipped", node: true},
	api.NoteEnded:     {word: "ended"},
	api.NoteForgotten: {word: "forgotten"},
}

// report is what a line of the script has told: the words behind its first one, and the lines that belong to it.
type report struct {
	words []string
	below []string
}

// line is one of the transcript, with what stands ahead of its words.
func line(lead string, words ...string) string { return lead + strings.Join(words, " ") + "\n" }

func telling(word string) (report, api.Errno) { return report{words: []string{word}}, api.OK }

// done is what is told where nothing but the code was answered.
func done(code api.Errno) (report, api.Errno) {
	if code != api.OK {
		return report{}, code
	}
	return telling("ok")
}

func refusal(code api.Errno) []string { return []string{"refused", strconv.Itoa(int(code))} }

// submitted are the words of a submission's answer.
func submitted(a api.Answer) []string {
	if a.Code != api.OK {
		return refusal(a.Code)
	}
	words := []string{"ok", strconv.Itoa(a.Run)}
	if a.Again {
		words = append(words, "again")
	}
	return words
}

func taskWords(t api.Task) []string {
	words := []string{"token", strconv.Itoa(t.Token), "run", strconv.Itoa(t.Run), "node", t.Name, "attempt", strconv.Itoa(t.Attempt), "until", strconv.Itoa(t.Until)}
	if t.BeatBy != 0 {
		words = append(words, "beat", strconv.Itoa(t.BeatBy))
	}
	for _, input := range t.Inputs {
		words = append(words, "in", hexOf(input))
	}
	return words
}

func noteLines(lead string, notes []api.Note) []string {
	lines := make([]string, 0, len(notes))
	for _, n := range notes {
		lines = append(lines, line(lead, noteWords(n)...))
	}
	return lines
}

func noteWords(n api.Note) []string {
	s := shapes[n.Kind]
	words := []string{strconv.Itoa(n.Time), "run", strconv.Itoa(n.Run), s.word}
	if s.node {
		words = append(words, "node", strconv.Itoa(n.Node))
	}
	if s.attempt {
		words = append(words, "attempt", strconv.Itoa(n.Attempt))
	}
	if s.token {
		words = append(words, "token", strconv.Itoa(n.Token))
	}
	if s.due {
		words = append(words, "due", strconv.Itoa(n.Due))
	}
	switch n.Kind {
	case api.NoteFailed, api.NoteDead:
		words = append(words, whys[n.Why])
	case api.NoteEnded:
		words = append(words, runStands[n.Why])
	}
	return words
}

// answerLines are what is told of an answer that a crew was given.
func answerLines(a api.Answer) []string {
	words := []string{"ok"}
	if a.Code != api.OK {
		words = refusal(a.Code)
	}
	return append([]string{line("  ", words...)}, noteLines("    ", a.Notes)...)
}

func firedLines(f api.Fired) []string {
	words := append([]string{f.Name, strconv.Itoa(f.Time)}, submitted(f.Answer)...)
	return append([]string{line("  ", words...)}, noteLines("    ", f.Answer.Notes)...)
}

func runReport(s api.RunState) report {
	told := report{words: []string{runStands[s.Status], "submitted", strconv.Itoa(s.Submitted)}}
	if s.Status != api.RunLive {
		told.words = append(told.words, "ended", strconv.Itoa(s.Ended))
	}
	for i, n := range s.Nodes {
		told.below = append(told.below, line("  ", nodeWords(s.Plan.Nodes[i].Name, n)...))
	}
	return told
}

func nodeWords(name string, n api.NodeState) []string {
	words := []string{name, nodeStands[n.State], strconv.Itoa(n.Attempts)}
	switch n.State {
	case api.NodeLeased:
		words = append(words, "token", strconv.Itoa(n.Token))
	case api.NodeDone:
		words = append(words, hexOf(n.Result))
	}
	return words
}
