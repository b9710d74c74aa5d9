package line

import "guideway/api"

// exceeds tells whether a number is greater in size than most. (The least int has no size that is an int.)
func exceeds(x, most int) bool {
	return !within(x, -most, most)
}

func within(x, lo, hi int) bool {
	return x >= lo && x <= hi
}

func size(x int) int {
	return max(x, -x)
}

// fraction returns a fraction in lowest terms; den is above 0.
func fraction(num, den int) api.Frac {
	a, b := size(num), den
	for b != 0 {
		a, b = b, a%b
	}
	return api.Frac{Num: num / a, Den: den / a}
}

// floor returns a quotient rounded down; den is above 0.
func floor(num, den int) int {
	quotient := num / den
	if num%den < 0 {
		quotient--
	}
	return quotient
}

// ceiling returns a quotient rounded up; den is above 0.
func ceiling(num, den int) int {
	return -floor(-num, den)
}

// common returns what two ranges have in common, and whether this is anything.
func common(a, b api.Range) (api.Range, bool) {
	both := api.Range{Lo: max(a.Lo, b.Lo), Hi: min(a.Hi, b.Hi)}
	return both, both.Lo <= both.Hi
}
