package stator

import (
	"strconv"
	"strings"

	"guideway/api"
)

// maxDigits is how many digits a number in a text has at most.
const maxDigits = 6

// FormatVector returns the text of a vector.
func FormatVector(v api.Third) string {
	return strconv.Itoa(v.A) + "," + strconv.Itoa(v.B)
}

// ParseVector returns the vector with a text.
func ParseVector(s string) (api.Third, api.Errno) {
	first, second, _ := strings.Cut(s, ",")
	if !isNumber(first) || !isNumber(second) {
		return api.Third{}, api.ErrSyntax
	}
	var v api.Third
	v.A, _ = strconv.Atoi(first)
	v.B, _ = strconv.Atoi(second)
	if err := checkVector(v); err != api.OK {
		return api.Third{}, err
	}
	return v, api.OK
}

// isNumber tells whether a word is a number: without zeros in front of other digits, and 0 without "-".
func isNumber(word string) bool {
	digits, isNegative := strings.CutPrefix(word, "-")
	if digits == "" || len(digits) > maxDigits {
		return false
	}
	if digits[0] == '0' && (isNegative || len(digits) > 1) {
		return false
	}
	for i := range len(digits) {
		if digits[i] < '0' || digits[i] > '9' {
			return false
		}
	}
	return true
}
