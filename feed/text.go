package feed

import (
	"strconv"
	"strings"

	"guideway/api"
)

// maxDigits is how many digits a number in a text has at most.
const maxDigits = 9

// FormatDeparture returns the text of a departure.
func FormatDeparture(x api.FeedDeparture) string {
	return x.Train + " " + strconv.Itoa(x.At)
}

// ParseDeparture returns the departure with a text.
func ParseDeparture(s string) (api.FeedDeparture, api.Errno) {
	name, word, _ := strings.Cut(s, " ")
	at, ok := readNumber(word) // a further blank is no digit
	switch {
	case name == "", !ok:
		return api.FeedDeparture{}, api.ErrSyntax
	case !isName(name):
		return api.FeedDeparture{}, api.ErrName
	}
	return api.FeedDeparture{Train: name, At: at}, api.OK
}

// readNumber returns the number of a word: "-" may stand in front of digits, but not of 0, and no zero in front of others.
func readNumber(word string) (int, bool) {
	digits := strings.TrimPrefix(word, "-")
	if !within(len(digits), 1, maxDigits) || digits[0] == '0' && word != "0" {
		return 0, false
	}
	for i := range len(digits) {
		if !isDigit(digits[i]) {
			return 0, false
		}
	}
	number, err := strconv.Atoi(word)
	return number, err == nil
}

// isName tells whether a word is a name.
func isName(word string) bool {
	for i := range len(word) {
		if !isLetter(word[i]) && (i == 0 || !isDigit(word[i]) && word[i] != '-') {
			return false
		}
	}
	return within(len(word), 1, api.MaxName)
}

func isLetter(b byte) bool {
	return b >= 'a' && b <= 'z' || b >= 'A' && b <= 'Z'
}

func isDigit(b byte) bool {
	return b >= '0' && b <= '9'
}
