package locate

import (
	"strconv"
	"strings"

	"guideway/api"
)

// How many digits a number in a text has at most.
const (
	countDigits = 4
	trackDigits = 9
)

// roundWord stands behind the text of a round track.
const roundWord = " round"

// FormatReading returns the text of a reading.
func FormatReading(x api.LocateReading) string {
	return seenText(x.Seen) + " " + strconv.Itoa(x.Count)
}

// ParseReading returns the reading with a text.
func ParseReading(s string) (api.LocateReading, api.Errno) {
	seen, count, _ := strings.Cut(s, " ")
	if !hasOnly(seen, "01?") || !isNumber(count, countDigits) {
		return api.LocateReading{}, api.ErrSyntax
	}
	number, _ := strconv.Atoi(count)
	return api.LocateReading{Seen: seenIn(seen), Count: number}, api.OK
}

// FormatTrack returns the text of a track.
func FormatTrack(t api.LocateTrack) string {
	text := seenText(t.Vanes)
	for _, number := range numbersOf(&t) {
		text += " " + strconv.Itoa(*number)
	}
	if t.Round {
		text += roundWord
	}
	return text
}

// ParseTrack returns the track with a text.
func ParseTrack(s string) (api.LocateTrack, api.Errno) {
	var t api.LocateTrack
	s, t.Round = strings.CutSuffix(s, roundWord)
	words := strings.Split(s, " ")
	numbers := numbersOf(&t)
	if len(words) != 1+len(numbers) || !hasOnly(words[0], "01") {
		return api.LocateTrack{}, api.ErrSyntax
	}
	t.Vanes = seenIn(words[0])
	for i, word := range words[1:] {
		if !isNumber(word, trackDigits) {
			return api.LocateTrack{}, api.ErrSyntax
		}
		*numbers[i], _ = strconv.Atoi(word)
	}
	if _, err := CheckTrack(t); err != api.OK {
		return api.LocateTrack{}, err
	}
	return t, api.OK
}

// numbersOf are the numbers of a track, in the order of its text.
func numbersOf(t *api.LocateTrack) [7]*int {
	return [...]*int{&t.Window, &t.Tooth, &t.PerVane, &t.First, &t.Modulus, &t.Slack, &t.Errors}
}

// seenText returns a digit for each 0 and 1, and "?" for each other number.
func seenText(list []int) string {
	text := make([]byte, len(list))
	for i, number := range list {
		text[i] = '?'
		if within(number, 0, 1) {
			text[i] = '0' + byte(number)
		}
	}
	return string(text)
}

// seenIn undoes seenText.
func seenIn(text string) []int {
	list := make([]int, len(text))
	for i := range len(text) {
		list[i] = api.LocateUnread
		if text[i] != '?' {
			list[i] = int(text[i] - '0')
		}
	}
	return list
}

// hasOnly tells whether a word is not empty and has no letters but these.
func hasOnly(word, letters string) bool {
	return word != "" && strings.Trim(word, letters) == ""
}

// isNumber tells whether a word is a number of so many digits at most, without a sign, and without zeros in front of
// other digits.
func isNumber(word string, most int) bool {
	if word == "" || len(word) > most || word[0] == '0' && len(word) > 1 {
		return false
	}
	return hasOnly(word, "0123456789")
}
