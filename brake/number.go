package brake

import (
	"sort"

	"guideway/api"
)

// second is the milliseconds of a second.
const second = 1000

// mostRoot is greater than the root of api.MaxSquare.
const mostRoot = 1 << 18

func within(x, lo, hi int) bool {
	return x >= lo && x <= hi
}

// floor returns a quotient rounded down; num is at least 0, den above 0.
func floor(num, den int) int {
	return num / den
}

// ceiling returns a quotient rounded up; num is at least 0, den above 0.
func ceiling(num, den int) int {
	return (num + den - 1) / den
}

// root returns the root of a square, rounded down and up.
func root(square int) api.Range {
	up := sort.Search(mostRoot, func(x int) bool { return x*x >= square })
	if up*up == square {
		return api.Range{Lo: up, Hi: up}
	}
	return api.Range{Lo: up - 1, Hi: up}
}
