package levitate

import "sort"

func within(x, lo, hi int) bool {
	return x >= lo && x <= hi
}

// exceeds tells whether a number is greater in size than most. (The least int has no size that is an int.)
func exceeds(x, most int) bool {
	return !within(x, -most, most)
}

func size(x int) int {
	return max(x, -x)
}

// floor returns a quotient rounded down; den is above 0.
func floor(num, den int) int {
	quotient := num / den
	if num%den < 0 {
		quotient--
	}
	return quotient
}

// ceiling returns a quotient rounded up; den is above 0.
func ceiling(num, den int) int {
	return -floor(-num, den)
}

// least returns the least number from 0 to most that is asked for, and whether there is one; all greater ones are asked
// for, too.
func least(most int, isAsked func(int) bool) (int, bool) {
	number := sort.Search(most+1, isAsked)
	return number, number <= most
}
