package brake

import (
	"strconv"
	"strings"

	"guideway/api"
)

// The words of the language of tracks.
const (
	trackWord = "track"
	pieceWord = "piece"
	leaveWord = "leave"
)

// Print returns the text of a track.
func Print(t api.BrakeTrack) (string, api.Errno) {
	c, err := check(t)
	if err != api.OK {
		return "", err
	}
	var out strings.Builder
	out.WriteString(trackWord + " " + c.Name + "\n")
	for _, piece := range c.Pieces {
		out.WriteString(pieceWord)
		for _, number := range []int{piece.Length, piece.Gradient, piece.Limit} {
			out.WriteString(" " + strconv.Itoa(number))
		}
		if piece.Leave {
			out.WriteString(" " + leaveWord)
		}
		out.WriteString("\n")
	}
	return out.String(), api.OK
}

// FormatRun returns the text of a state.
func FormatRun(x api.BrakeRun) string {
	return strconv.Itoa(x.Post) + " " + strconv.Itoa(x.Square)
}

// ParseRun returns the state with a text.
func ParseRun(s string) (api.BrakeRun, api.Errno) {
	post, square, _ := strings.Cut(s, " ")
	if !isUnsigned(post) || !isUnsigned(square) {
		return api.BrakeRun{}, api.ErrSyntax
	}
	return api.BrakeRun{Post: valueOf(post), Square: valueOf(square)}, api.OK
}
