package source

import (
	"strings"

	"escapement/api"
)

// maxNumber is the greatest number that may be written.
const maxNumber = 1<<62 - 1

// line is a line whose words are taken one by one. One that does not fit is only noted, so that a form is read at one stroke and asked at its end.
type line struct {
	place int // from 1 on
	rest  []string
	wrong bool
}

// lineOf parts what stands ahead of a remark into words.
func lineOf(text string, place int) *line {
	said, _, _ := strings.Cut(text, "#")
	return &line{place: place, rest: strings.FieldsFunc(said, isBlank)}
}

func isBlank(letter rune) bool { return letter == ' ' || letter == '\t' }

// next is the word that is taken next. Behind the last one it is empty, as no word is, so that it fits nowhere.
func (l *line) next() string {
	if len(l.rest) == 0 {
		return ""
	}
	return l.rest[0]
}

func (l *line) take() string {
	word := l.next()
	if word != "" {
		l.rest = l.rest[1:]
	}
	return word
}

// name is a copy, since a plan shares no memory with the text that it was read from.
func (l *line) name() string {
	word := l.take()
	l.wrong = l.wrong || !isName(word)
	return strings.Clone(word)
}

// number takes the number behind a word that must stand there.
func (l *line) number(word string) int {
	stands := l.take() == word
	n, ok := numberOf(l.take())
	l.wrong = l.wrong || !stands || !ok
	return n
}

// fits tells whether all was taken, and all was right.
func (l *line) fits() bool { return !l.wrong && len(l.rest) == 0 }

func isName(word string) bool {
	for _, letter := range word {
		if !inName(letter) {
			return false
		}
	}
	return word != "" && len(word) <= api.MaxName
}

func inName(letter rune) bool {
	return letter >= 'a' && letter <= 'z' || letter >= '0' && letter <= '9' || letter == '-' || letter == '_' || letter == '.'
}

func numberOf(word string) (int, bool) {
	n := 0
	for i, letter := range word {
		leading := i > 0 && n == 0
		if letter < '0' || letter > '9' || leading {
			return 0, false
		}
		digit := int(letter - '0')
		// Asked ahead of the step, since what is too great would wrap round.
		if n > (maxNumber-digit)/10 {
			return 0, false
		}
		n = n*10 + digit
	}
	return n, word != ""
}
