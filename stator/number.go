package stator

import (
	"sort"

	"guideway/api"
)

func within(x, lo, hi int) bool {
	return x >= lo && x <= hi
}

func size(x int) int {
	return max(x, -x)
}

// floor returns a quotient rounded down; den is above 0.
func floor(num, den int) int {
	quotient := num / den
	if num%den < 0 {
		quotient--
	}
	return quotient
}

// root returns the square root of a number from 0 to most times most, its ends rounded down and up.
func root(number, most int) api.Range {
	up := sort.Search(most, func(x int) bool { return x*x >= number })
	if up*up == number {
		return api.Range{Lo: up, Hi: up}
	}
	return api.Range{Lo: up - 1, Hi: up}
}

// checkSizes returns the error of numbers of which none may be greater in size than most. (The least int has no size
// that is an int.)
func checkSizes(most int, numbers ...int) api.Errno {
	for _, number := range numbers {
		if !within(number, -most, most) {
			return api.ErrRange
		}
	}
	return api.OK
}
