package world

import (
	"strings"

	"escapement/api"
)

const hexDigits = "0123456789abcdef"

// wordsOf are a line's words, up to a remark, as they stand.
func wordsOf(line string) []string {
	var words []string
	said, _, _ := strings.Cut(line, "#")
	begin := 0
	// The blank behind all ends the last word, too.
	for i, letter := range said + " " {
		if letter != ' ' && letter != '\t' {
			continue
		}
		if begin < i {
			words = append(words, said[begin:i])
		}
		begin = i + 1
	}
	return words
}

// numberOf is the number that a word says, if it is one. (No word is empty.)
func numberOf(word string) (int, bool) {
	n := 0
	for i, letter := range word {
		leading := i > 0 && n == 0
		if letter < '0' || letter > '9' || leading {
			return 0, false
		}
		digit := int(letter - '0')
		// Asked ahead of the step, since what is too great would wrap round.
		if n > (api.MaxTime-digit)/10 {
			return 0, false
		}
		n = n*10 + digit
	}
	return n, true
}

// bytesOf are the bytes that a word says by two digits each, if it does.
func bytesOf(word string) ([]byte, bool) {
	if len(word)%2 != 0 {
		return nil, false
	}
	b := make([]byte, len(word)/2)
	for i, letter := range word {
		digit := strings.IndexRune(hexDigits, letter)
		if digit < 0 {
			return nil, false
		}
		b[i/2] = b[i/2]<<4 | byte(digit)
	}
	return b, true
}

// hexOf is bytes as a word; a word has letters, so no bytes have one of their own.
func hexOf(b []byte) string {
	if len(b) == 0 {
		return "-"
	}
	word := make([]byte, 0, 2*len(b))
	for _, x := range b {
		word = append(word, hexDigits[x>>4], hexDigits[x&15])
	}
	return string(word)
}
