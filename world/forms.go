package world

import (
	"strings"

	"escapement/api"
)

// doer is what a line does: what it has to tell then, or why it is refused.
type doer func(w *world, x deed) (report, api.Errno)

// form is one that the lines of a word may have: the parts behind it, and what such a line does. A part is written as in the chapter: N, NAME, KEY, TITLE, HEX, W, or a word that must stand there itself; ".." lets the part ahead of it stand as often as one likes.
type form struct {
	parts string
	do    doer
}

// deed is a line that was read: what it does, and with what.
type deed struct {
	place   int // from 1 on
	word    string
	do      doer
	numbers []int
	plan    api.Plan // the one that NAME means there
	name    string   // KEY or TITLE
	bytes   []byte
	cron    []string // each W
}

// forms are those of all words but disk, plan and end, which are read apart.
func forms() map[string][]form {
	return map[string][]form{
		"submit":   {{"NAME", operation(submit)}, {"NAME key KEY", operation(submit)}},
		"poll":     {{"N by N", operation(poll)}},
		"beat":     {{"N", operation(beat)}},
		"fail":     {{"N", operation(fail)}},
		"complete": {{"N", operation(complete)}, {"N HEX", operation(complete)}},
		"work":     {{"N", asking((*world).work)}},
		"cancel":   {{"N", operation(cancel)}},
		"forget":   {{"N", operation(forget)}},
		"draw":     {{"N", operation(draw)}},
		"tick":     {{"N", operation(tick)}},
		"compact":  {{"", asking((*world).compact)}},
		"crew":     {{"N seed N", asking((*world).crew)}},
		"schedule": {{"TITLE plan NAME from N at W W W W W", (*world).schedule}},
		"drop":     {{"TITLE", (*world).drop}},
		"fire":     {{"", asking((*world).fire)}},
		"arm":      {{"N", (*world).arm}},
		"crash":    {{"", (*world).crash}, {"N ..", (*world).crash}},
		"reopen":   {{"", (*world).reopen}},
		"spoil":    {{"N at N mask N", (*world).spoil}},
		"now":      {{"", asking((*world).now)}},
		"ready":    {{"N", asking((*world).ready)}},
		"due":      {{"", asking((*world).due)}},
		"run":      {{"N", asking((*world).run)}},
		"segments": {{"", (*world).segments}},
	}
}

// partsOf are a form's parts, where count of them are wanted if it can have so many.
func (f form) partsOf(count int) []string {
	parts := strings.Fields(f.parts)
	last := len(parts) - 1
	if last < 1 || parts[last] != ".." {
		return parts
	}
	parts = parts[:last]
	for len(parts) < count {
		parts = append(parts, parts[last-1])
	}
	return parts
}

// take takes the words behind a line's first, each for its part, and tells whether the line has that form.
func (x *deed) take(parts, words []string, plans map[string]api.Plan) bool {
	if len(parts) != len(words) {
		return false
	}
	for i, part := range parts {
		if !x.takeWord(part, words[i], plans) {
			return false
		}
	}
	return true
}

func (x *deed) takeWord(part, word string, plans map[string]api.Plan) (ok bool) {
	switch part {
	case "N":
		var n int
		n, ok = numberOf(word)
		x.numbers = append(x.numbers, n)
	case "NAME":
		x.plan, ok = plans[word]
	case "KEY", "TITLE":
		x.name, ok = word, true
	case "HEX":
		x.bytes, ok = bytesOf(word)
	case "W":
		x.cron, ok = append(x.cron, word), true
	default:
		ok = word == part
	}
	return ok
}
