package timetable

import (
	"strings"

	"guideway/api"
)

// word is a word of a text, and its mark. At the end of a line it is "", and has the mark of the end.
type word struct {
	text string
	mark api.TextMark
}

// wrongWord is thrown if a word is wrong.
type wrongWord struct {
	mark api.TextMark
	err  api.Errno
}

func (x word) refuse(err api.Errno) {
	panic(wrongWord{x.mark, err})
}

// words are those of a line of text that were not read yet, the end behind them.
type words []word

func readWords(number int, text string) words {
	var w words
	at := 0
	for _, field := range strings.FieldsFunc(text, isBlank) {
		at += strings.Index(text[at:], field)
		w = append(w, word{field, api.TextMark{Line: number, Column: at + 1}})
		at += len(field)
	}
	return append(w, word{mark: api.TextMark{Line: number, Column: at + 1}})
}

func isBlank(r rune) bool {
	return r == ' ' || r == '\t'
}

func (w words) isAtEnd() bool {
	return w[0].text == ""
}

// next reads a word, which must be there.
func (w *words) next() word {
	next := (*w)[0]
	if w.isAtEnd() {
		next.refuse(api.ErrMissing)
	}
	*w = (*w)[1:]
	return next
}

// form reads a word of the form, which must be right.
func (w *words) form(isRight func(string) bool, wrong api.Errno) string {
	next := w.next()
	if !isRight(next.text) {
		next.refuse(wrong)
	}
	return next.text
}

func (w *words) name() string {
	return w.form(isName, api.ErrName)
}

func (w *words) number() int {
	return valueOf(w.form(isNumber, api.ErrSyntax))
}

// most reads a greatest duration.
func (w *words) most() int {
	isMost := func(word string) bool { return word == openWord || isNumber(word) }
	text := w.form(isMost, api.ErrSyntax)
	if text == openWord {
		return api.TimetableOpen
	}
	return valueOf(text)
}

// end asks that there is no word more.
func (w *words) end() {
	if !w.isAtEnd() {
		w.next().refuse(api.ErrSyntax)
	}
}
