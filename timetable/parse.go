package timetable

import (
	"slices"
	"strings"

	"guideway/api"
)

// wrongNet is thrown if the net of a text is wrong.
type wrongNet struct {
	mark api.TimetableMark
	err  api.Errno
}

// reader reads a text: the net so far, and the lines of its events and of its activities. The line of the net itself is
// the one behind the last one.
type reader struct {
	net   api.TimetableNet
	lines [api.TimetableActivities + 1][]int
}

// Parse returns the net with a text, or the first error of the text and its mark.
func Parse(s string) (n api.TimetableNet, mark api.TextMark, err api.Errno) {
	if len(s) > api.MaxText {
		return api.TimetableNet{}, api.TextMark{}, api.ErrLarge
	}
	var r reader
	defer func() {
		switch wrong := recover().(type) {
		case nil:
		case wrongWord:
			mark, err = wrong.mark, wrong.err
		case wrongNet:
			mark, err = r.markOf(wrong.mark), wrong.err
		default: // nothing else is thrown; if it were, it should not leave as a panic
			err = api.ErrSyntax
		}
	}()
	r.read(s)
	return r.net, api.TextMark{}, api.OK
}

func (r *reader) markOf(m api.TimetableMark) api.TextMark {
	return api.TextMark{Line: r.lines[m.List][m.Number], Column: 1}
}

func (r *reader) read(s string) {
	number := 1
	for ; s != ""; number++ {
		var text string
		text, s, _ = strings.Cut(s, "\n")
		if w := readWords(number, text); !w.isAtEnd() {
			list := r.readLine(&w)
			r.lines[list] = append(r.lines[list], number)
		}
	}
	r.lines[api.TimetableItself] = []int{number}
	if mark, err := CheckNet(r.net); err != api.OK {
		panic(wrongNet{mark, err})
	}
}

// readLine reads a line that has words, and returns which list it tells of.
func (r *reader) readLine(w *words) int {
	first := w.next()
	kind, isKind := kindOf(first.text)
	if isKind {
		a := r.readActivity(kind, w)
		r.net.Activities = append(r.net.Activities, a)
		return api.TimetableActivities
	}
	switch {
	case first.text != eventWord:
		first.refuse(api.ErrSyntax)
	case len(r.net.Activities) > 0:
		first.refuse(api.ErrOrder)
	}
	name := w.name()
	w.end()
	r.net.Events = append(r.net.Events, name)
	return api.TimetableEvents
}

// readActivity reads what stands behind the word of a kind.
func (r *reader) readActivity(kind int, w *words) api.TimetableActivity {
	a := api.TimetableActivity{Kind: kind}
	a.From = r.readEvent(w)
	a.To = r.readEvent(w)
	a.Least = w.number()
	a.Most = w.most()
	if kind == api.TimetableConnect {
		a.Wait = w.number()
	}
	w.end()
	return a
}

// readEvent reads the name of an event that is there, and returns its number.
func (r *reader) readEvent(w *words) int {
	isThere := func(name string) bool { return slices.Contains(r.net.Events, name) }
	return slices.Index(r.net.Events, w.form(isThere, api.ErrMissing))
}
