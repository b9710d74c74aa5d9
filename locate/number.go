package locate

func within(x, lo, hi int) bool {
	return x >= lo && x <= hi
}

// modulo returns the remainder of a number, from 0 to den less 1.
func modulo(x, den int) int {
	return (x%den + den) % den
}

// floor returns a quotient rounded down; den is above 0.
func floor(num, den int) int {
	return (num - modulo(num, den)) / den
}

// ceiling returns a quotient rounded up; den is above 0.
func ceiling(num, den int) int {
	return -floor(-num, den)
}

// leastMultiple returns the least common multiple of two numbers above 0.
func leastMultiple(a, b int) int {
	divisor, rest := a, b
	for rest > 0 {
		divisor, rest = rest, divisor%rest
	}
	return a / divisor * b
}
