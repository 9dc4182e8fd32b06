package cron

import (
	"strings"

	"escapement/api"
)

// maxText is how many bytes an expression's text has at most.
const maxText = 1024

// Parse reads one.
func Parse(s string) (*Expr, api.Errno) {
	if len(s) > maxText {
		return nil, api.ErrCronWords
	}
	words := split(s)
	if len(words) != fields {
		return nil, api.ErrCronWords
	}
	x := new(Expr)
	for field, b := range bounds {
		if !x.sets[field].addWord(words[field], b) {
			return nil, api.ErrCronItem
		}
	}
	return x, api.OK
}

// split gives the words of a text. Blanks are no part of a longer rune, so
// that bytes which are no UTF-8 stay as they are within their words.
func split(s string) []string {
	var words []string
	begin := 0
	for i, r := range s {
		if r != ' ' && r != '\t' {
			continue
		}
		if begin < i {
			words = append(words, s[begin:i])
		}
		begin = i + 1
	}
	if begin < len(s) {
		words = append(words, s[begin:])
	}
	return words
}

// addWord lays the values of a word's items into the set, or tells that one is none.
func (s *set) addWord(word string, b bound) bool {
	for _, item := range strings.Split(word, ",") {
		if !s.addItem(item, b) {
			return false
		}
	}
	return true
}

// addItem lays the values of an item into the set, or tells that it is none.
func (s *set) addItem(item string, b bound) bool {
	span, stepText, stepped := strings.Cut(item, "/")
	ends, single, ok := spanOf(span, b)
	step, stepOK := 1, true
	if stepped {
		step, stepOK = number(stepText, bound{1, b.greatest})
	}
	if !ok || !stepOK || single && stepped {
		return false
	}
	for v := ends.least; v <= ends.greatest; v += step {
		s[v] = true
	}
	return true
}

// spanOf gives the first and the last value of an item without its step, and
// whether it is a single number, which takes no step.
func spanOf(span string, b bound) (ends bound, single, ok bool) {
	if span == "*" {
		return b, false, true
	}
	firstText, lastText, ranged := strings.Cut(span, "-")
	first, ok := number(firstText, b)
	if !ok || !ranged {
		return bound{first, first}, true, ok
	}
	last, ok := number(lastText, bound{first, b.greatest})
	return bound{first, last}, false, ok
}

// number reads a number that must lie within bounds.
func number(text string, b bound) (int, bool) {
	n := 0
	for i, r := range text {
		leading := i > 0 && n == 0
		if r < '0' || r > '9' || leading {
			return 0, false
		}
		n = n*10 + int(r-'0')
		// What is too great already must not grow till it wraps round.
		if n > b.greatest {
			return 0, false
		}
	}
	return n, text != "" && n >= b.least
}
