package line

import (
	"slices"
	"strings"

	"guideway/api"
)

// wrongText is thrown if a text is not in the language: what is wrong, and where.
type wrongText struct {
	mark api.TextMark
	err  api.Errno
}

// wrongItem is thrown if CheckLine refuses the line of a text.
type wrongItem struct {
	item api.LineMark
	err  api.Errno
}

// Parse returns the line with a text, or the first error of the text and its mark.
func Parse(s string) (api.LineLine, api.TextMark, api.Errno) {
	if len(s) > api.MaxText {
		return api.LineLine{}, api.TextMark{}, api.ErrLarge
	}
	return parse(s)
}

func parse(s string) (l api.LineLine, mark api.TextMark, err api.Errno) {
	var r reader
	defer func() {
		switch wrong := recover().(type) {
		case nil:
		case wrongText:
			mark, err = wrong.mark, wrong.err
		case wrongItem:
			mark, err = r.markOf(wrong.item), wrong.err
		default: // nothing else is thrown; if it were, it should not leave as a panic
			err = api.ErrSyntax
		}
	}()
	r.read(s)
	return r.line, api.TextMark{}, api.OK
}

// reader reads a text: the line so far, the lines of text of its items list by list, and the first word of the last
// line of text.
type reader struct {
	line    api.LineLine
	numbers [api.LineSwitches + 1][]int
	last    string
}

func (r *reader) markOf(item api.LineMark) api.TextMark {
	return api.TextMark{Line: r.numbers[item.List][item.Number], Column: 1}
}

func (r *reader) read(s string) {
	number := 1
	for ; s != ""; number++ {
		var text string
		text, s, _ = strings.Cut(s, "\n")
		if w := newWords(number, text); !w.atEnd() {
			r.readRow(w)
		}
	}
	if r.last == "" || r.last == "line" || r.last == "beam" {
		panic(wrongText{api.TextMark{Line: number, Column: 1}, api.ErrMissing})
	}
	if item, err := CheckLine(r.line); err != api.OK {
		panic(wrongItem{item, err})
	}
}

// readRow reads a line of text that has words.
func (r *reader) readRow(w *words) {
	r.last = r.first(w)
	list := api.LineItself
	switch r.last {
	case "line":
		r.line.Name = w.name()
	case "joint":
		list = api.LineJoints
		joint := api.LineJoint{Across: w.signed(), Up: w.signed(), Off: api.Range{Lo: w.signed(), Hi: w.signed()}}
		r.line.Joints = append(r.line.Joints, joint)
	case "beam":
		list = api.LineBeams
		beam := api.LineBeam{Length: w.unsigned(), Cant: w.signed()}
		r.line.Beams = append(r.line.Beams, beam)
	case "switch":
		list = api.LineSwitches
		r.line.Switches = append(r.line.Switches, readSwitch(w))
	}
	w.end()
	r.numbers[list] = append(r.numbers[list], w.number)
}

// first reads the first word of a line of text.
func (r *reader) first(w *words) string {
	first := w.next()
	known := []string{"joint", "beam", "switch"}
	if r.last == "" {
		known = []string{"line"}
	}
	if !slices.Contains(known, first.text) {
		w.refuse(first, api.ErrSyntax)
	}
	// What the last line of text begins with, and what this one begins with.
	joins := map[[2]string]bool{
		{"", "line"}:         true,
		{"line", "joint"}:    true,
		{"joint", "beam"}:    true,
		{"beam", "joint"}:    true,
		{"joint", "switch"}:  true,
		{"switch", "switch"}: true,
	}
	if !joins[[2]string{r.last, first.text}] {
		w.refuse(first, api.ErrOrder)
	}
	return first.text
}

func readSwitch(w *words) api.LineSwitch {
	s := api.LineSwitch{Name: w.name(), First: w.unsigned()}
	s.Across = append(s.Across, w.signed())
	for !w.atEnd() {
		s.Across = append(s.Across, w.signed())
	}
	return s
}
