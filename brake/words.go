package brake

import (
	"strconv"
	"strings"

	"guideway/api"
)

// blanks are the bytes between words.
const blanks = " \t"

// maxDigits is how many digits a number in a text has at most.
const maxDigits = 11

// words reads a line of text word by word, up to the first error.
type words struct {
	text string
	read int          // how many bytes of it were read: up to the last word that was read
	mark api.TextMark // of the last word that was read, or of the end
	err  api.Errno
}

func newWords(number int, text string) *words {
	return &words{text: text, mark: api.TextMark{Line: number}}
}

// next reads a word; it is empty at the end, and behind an error.
func (w *words) next() string {
	if w.err != api.OK {
		return ""
	}
	rest := strings.TrimLeft(w.text[w.read:], blanks)
	if rest == "" {
		w.mark.Column = w.read + 1
		return ""
	}
	start := len(w.text) - len(rest)
	length := strings.IndexAny(rest, blanks)
	if length < 0 {
		length = len(rest)
	}
	w.mark.Column = start + 1
	w.read = start + length
	return rest[:length]
}

// form reads a word of the form: it must be there, and right.
func (w *words) form(isRight func(string) bool, wrong api.Errno) string {
	word := w.next()
	switch {
	case w.err != api.OK:
	case word == "":
		w.err = api.ErrMissing
	case !isRight(word):
		w.err = wrong
	}
	return word
}

// first reads the first word.
func (w *words) first(known string) {
	w.form(func(word string) bool { return word == known }, api.ErrSyntax)
}

func (w *words) name() string {
	return w.form(isName, api.ErrName)
}

// unsigned reads a number without "-" in front.
func (w *words) unsigned() int {
	return valueOf(w.form(isUnsigned, api.ErrSyntax))
}

// signed reads a number that may have "-" in front.
func (w *words) signed() int {
	return valueOf(w.form(isSigned, api.ErrSyntax))
}

// may reads a word that may stand at the end, and returns whether it does.
func (w *words) may(known string) bool {
	word := w.next()
	if word != "" && word != known {
		w.err = api.ErrSyntax
	}
	return word == known
}

// end asks that there is no word more.
func (w *words) end() {
	if w.next() != "" {
		w.err = api.ErrSyntax
	}
}

func isName(word string) bool {
	if word == "" || len(word) > api.MaxName || !isLetter(word[0]) {
		return false
	}
	for i := range len(word) {
		if !isLetter(word[i]) && !isDigit(word[i]) && word[i] != '-' {
			return false
		}
	}
	return true
}

// isUnsigned tells whether a word is a number without "-": no zero stands in front of other digits.
func isUnsigned(word string) bool {
	if word == "" || len(word) > maxDigits || word[0] == '0' && len(word) > 1 {
		return false
	}
	for i := range len(word) {
		if !isDigit(word[i]) {
			return false
		}
	}
	return true
}

// isSigned tells whether a word is a number that may have "-" in front ("-0" is none).
func isSigned(word string) bool {
	digits, isNegative := strings.CutPrefix(word, "-")
	return isUnsigned(digits) && !(isNegative && digits == "0")
}

// valueOf returns the number that a right word tells.
func valueOf(word string) int {
	number, _ := strconv.Atoi(word)
	return number
}

func isLetter(b byte) bool {
	return within(int(b), 'a', 'z') || within(int(b), 'A', 'Z')
}

func isDigit(b byte) bool {
	return within(int(b), '0', '9')
}
