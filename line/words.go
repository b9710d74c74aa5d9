package line

import (
	"strconv"
	"strings"

	"guideway/api"
)

// maxDigits is how many digits a number in a text has at most.
const maxDigits = 6

// word is a word, and the column of its first byte.
type word struct {
	text   string
	column int
}

// words are the words of a line of text that were not read yet, its number, and the column behind its last word.
type words struct {
	list   []word
	number int
	behind int
}

func newWords(number int, text string) *words {
	w := &words{number: number}
	start := 0
	for i := range len(text) + 1 {
		if i < len(text) && text[i] != ' ' && text[i] != '\t' {
			continue
		}
		if i > start {
			w.list = append(w.list, word{text[start:i], start + 1})
			w.behind = i + 1
		}
		start = i + 1
	}
	return w
}

func (w *words) atEnd() bool {
	return len(w.list) == 0
}

// refuse throws an error at a word.
func (w *words) refuse(at word, err api.Errno) {
	panic(wrongText{api.TextMark{Line: w.number, Column: at.column}, err})
}

func (w *words) next() word {
	if w.atEnd() {
		w.refuse(word{column: w.behind}, api.ErrMissing)
	}
	next := w.list[0]
	w.list = w.list[1:]
	return next
}

func (w *words) name() string {
	next := w.next()
	if !isName(next.text) {
		w.refuse(next, api.ErrName)
	}
	return next.text
}

// unsigned reads a number without "-" in front.
func (w *words) unsigned() int {
	next := w.next()
	if !isDigits(next.text) {
		w.refuse(next, api.ErrSyntax)
	}
	return valueOf(next.text)
}

// signed reads a number that may have "-" in front.
func (w *words) signed() int {
	next := w.next()
	digits, negative := strings.CutPrefix(next.text, "-")
	if !isDigits(digits) || negative && digits == "0" {
		w.refuse(next, api.ErrSyntax)
	}
	return valueOf(next.text)
}

// end throws an error if there is a word more.
func (w *words) end() {
	if !w.atEnd() {
		w.refuse(w.next(), api.ErrSyntax)
	}
}

// isDigits tells whether a text is a number without sign: at most maxDigits digits, no zero in front of others.
func isDigits(s string) bool {
	if len(s) == 0 || len(s) > maxDigits || s[0] == '0' && len(s) > 1 {
		return false
	}
	for i := range len(s) {
		if !isDigit(s[i]) {
			return false
		}
	}
	return true
}

// valueOf returns the number that a right text tells.
func valueOf(s string) int {
	number, _ := strconv.Atoi(s)
	return number
}
