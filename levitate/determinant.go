package levitate

import (
	"iter"
	"math/bits"
	"slices"
)

// determinant returns the determinant of rows; that of none is 1.
func determinant(rows [][]int) wide {
	if len(rows) == 0 {
		return widen(1)
	}
	var sum wide
	for k, entry := range rows[0] {
		part := widen(entry).times(determinant(withoutColumn(rows[1:], k)))
		if k%2 == 0 {
			sum = sum.plus(part)
		} else {
			sum = sum.minus(part)
		}
	}
	return sum
}

func withoutColumn(rows [][]int, column int) [][]int {
	var out [][]int
	for _, row := range rows {
		out = append(out, slices.Concat(row[:column], row[column+1:]))
	}
	return out
}

// minor returns the determinant of the entries of some rows and the same columns.
func minor(rows [][]int, set []int) wide {
	var chosen [][]int
	for _, i := range set {
		var row []int
		for _, k := range set {
			row = append(row, rows[i][k])
		}
		chosen = append(chosen, row)
	}
	return determinant(chosen)
}

// sets yields all sets of the numbers below n, the least one first.
func sets(n int) iter.Seq[[]int] {
	return func(yield func([]int) bool) {
		for count := range n + 1 {
			// A number's bit is higher than those of all greater numbers: so of two sets with as many members the
			// lexicographically first one has the greater word.
			for word := uint(1)<<n - 1; ; word-- {
				if bits.OnesCount(word) == count && !yield(membersOf(word, n)) {
					return
				}
				if word == 0 {
					break
				}
			}
		}
	}
}

func membersOf(word uint, n int) []int {
	var members []int
	for i := range n {
		if word>>(n-1-i)&1 == 1 {
			members = append(members, i)
		}
	}
	return members
}
