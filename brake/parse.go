package brake

import (
	"strings"

	"guideway/api"
)

// Parse returns the track with a text, or the first error of the text and its mark.
func Parse(s string) (api.BrakeTrack, api.TextMark, api.Errno) {
	if len(s) > api.MaxText {
		return api.BrakeTrack{}, api.TextMark{}, api.ErrLarge
	}
	var r reader
	if mark, err := r.read(s); err != api.OK {
		return api.BrakeTrack{}, mark, err
	}
	return r.track, api.TextMark{}, api.OK
}

// reader reads a text: the track so far, and the numbers of the lines of text that it stands in, that of its name first.
type reader struct {
	track   api.BrakeTrack
	numbers []int
}

// read reads a text, and returns its first error and the mark.
func (r *reader) read(s string) (api.TextMark, api.Errno) {
	number := 1
	readLine := (*reader).readTrack
	for ; s != ""; number++ {
		var text string
		text, s, _ = strings.Cut(s, "\n")
		if strings.Trim(text, blanks) == "" {
			continue
		}
		w := newWords(number, text)
		readLine(r, w)
		if w.err != api.OK {
			return w.mark, w.err
		}
		r.numbers = append(r.numbers, number)
		readLine = (*reader).readPiece
	}
	if len(r.numbers) == 0 {
		return api.TextMark{Line: number, Column: 1}, api.ErrMissing
	}
	return r.checkTrack()
}

func (r *reader) readTrack(w *words) {
	w.first(trackWord)
	r.track.Name = w.name()
	w.end()
}

func (r *reader) readPiece(w *words) {
	w.first(pieceWord)
	piece := api.BrakePiece{Length: w.unsigned(), Gradient: w.signed(), Limit: w.unsigned()}
	piece.Leave = w.may(leaveWord)
	w.end()
	r.track.Pieces = append(r.track.Pieces, piece)
}

// checkTrack returns the error of the track that was read, and its mark.
func (r *reader) checkTrack() (api.TextMark, api.Errno) {
	piece, err := CheckTrack(r.track)
	switch err {
	case api.OK:
		return api.TextMark{}, api.OK
	case api.ErrRange: // the only error that names a piece
		return api.TextMark{Line: r.numbers[1+piece], Column: 1}, err
	}
	return api.TextMark{Line: r.numbers[0], Column: 1}, err
}
