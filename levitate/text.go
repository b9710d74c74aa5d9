package levitate

import (
	"strconv"
	"strings"

	"guideway/api"
)

// maxDigits is how many digits a number in a text has at most.
const maxDigits = 9

// FormatStates returns the text of states.
func FormatStates(l [][]int) string {
	var states []string
	for _, state := range l {
		var words []string
		for _, number := range state {
			words = append(words, strconv.Itoa(number))
		}
		states = append(states, strings.Join(words, " "))
	}
	return strings.Join(states, ";")
}

// ParseStates returns the states with a text.
func ParseStates(s string) ([][]int, api.Errno) {
	if s == "" { // the text of no states, as each state has a number
		return nil, api.OK
	}
	var states [][]int
	for _, text := range strings.Split(s, ";") {
		var state []int
		for _, word := range strings.Split(text, " ") {
			if !isNumber(word) {
				return nil, api.ErrSyntax
			}
			number, _ := strconv.Atoi(word)
			state = append(state, number)
		}
		states = append(states, state)
	}
	return states, api.OK
}

// isNumber tells whether a word is a number: without zeros in front of other digits, and 0 without "-".
func isNumber(word string) bool {
	digits, isNegative := strings.CutPrefix(word, "-")
	if digits == "" || len(digits) > maxDigits {
		return false
	}
	if digits[0] == '0' && (isNegative || len(digits) > 1) {
		return false
	}
	for i := range len(digits) {
		if digits[i] < '0' || digits[i] > '9' {
			return false
		}
	}
	return true
}
