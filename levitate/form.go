package levitate

import (
	"math"

	"guideway/api"
)

// IsPositive returns whether a form is positive.
func IsPositive(form [][]int) (bool, api.Errno) {
	if err := checkEntries(form); err != api.OK {
		return false, err
	}
	return isPositive(form), api.OK
}

// ValueOf returns the value of a form at a state.
func ValueOf(form [][]int, x []int) (int, api.Errno) {
	if err := checkEntries(form); err != api.OK {
		return 0, err
	}
	if err := checkState(x, len(form)); err != api.OK {
		return 0, err
	}
	return valueAt(form, x, x), api.OK
}

// Worst returns the worst disturbance of a form.
func Worst(p api.LevitatePlant, form [][]int) (int, api.Errno) {
	c, err := checkFormOf(p, form)
	if err != api.OK {
		return 0, err
	}
	return c.worst(form), api.OK
}

// CheckForm accepts a positive form that all maps lessen by a rate; otherwise it returns the first map that does not.
func CheckForm(p api.LevitatePlant, form [][]int, rate [2]int) (int, api.Errno) {
	_, number, err := checkLessened(p, form, rate)
	return number, err
}

// checkLessened returns a plant whose maps all lessen a form by a rate, or the error of CheckForm and its number.
func checkLessened(p api.LevitatePlant, form [][]int, rate [2]int) (checkedPlant, int, api.Errno) {
	c, err := checkFormOf(p, form)
	if err != api.OK {
		return checkedPlant{}, 0, err
	}
	if !within(rate[1], 1, api.MaxLevitateDen) || !within(rate[0], 0, rate[1]) {
		return checkedPlant{}, 0, api.ErrRange
	}
	if !isPositive(form) {
		return checkedPlant{}, 0, api.ErrProof
	}
	for i := range c.Maps {
		if !c.lessens(i, form, rate) {
			return checkedPlant{}, i, api.ErrBreak
		}
	}
	return c, 0, api.OK
}

// checkFormOf returns a plant that is right, and has a form of its size.
func checkFormOf(p api.LevitatePlant, form [][]int) (checkedPlant, api.Errno) {
	c, err := check(p)
	if err != api.OK {
		return checkedPlant{}, err
	}
	if err := checkEntries(form); err != api.OK {
		return checkedPlant{}, err
	}
	if len(form) != c.parts {
		return checkedPlant{}, api.ErrClash
	}
	return c, api.OK
}

func checkEntries(form [][]int) api.Errno {
	switch {
	case len(form) == 0:
		return api.ErrShape
	case len(form) > api.MaxLevitateParts:
		return api.ErrLarge
	}
	for _, row := range form {
		if len(row) != len(form) {
			return api.ErrShape
		}
	}
	for i, row := range form {
		for k, entry := range row {
			if exceeds(entry, api.MaxLevitateForm) {
				return api.ErrRange
			}
			if entry != form[k][i] {
				return api.ErrForm
			}
		}
	}
	return api.OK
}

func isPositive(form [][]int) bool {
	var leading []int
	for i := range form {
		leading = append(leading, i)
		if minor(form, leading).sign() <= 0 {
			return false
		}
	}
	return true
}

// valueAt returns the sum of all entries of a form, each times a number of x and one of y.
func valueAt(form [][]int, x, y []int) int {
	sum := 0
	for i, row := range form {
		for k, entry := range row {
			sum += entry * x[i] * y[k]
		}
	}
	return sum
}

func (c checkedPlant) worst(form [][]int) int {
	worst := math.MinInt
	for below := range sets(c.parts) {
		point := make([]int, c.parts)
		for i, noise := range c.Noise {
			point[i] = noise + 1 // 1 for what rounding takes away
		}
		for _, i := range below {
			point[i] = -point[i]
		}
		worst = max(worst, valueAt(form, point, point))
	}
	return worst
}

func (c checkedPlant) lessens(number int, form [][]int, rate [2]int) bool {
	rest := make([][]int, c.parts)
	for i, row := range form {
		for k, entry := range row {
			image := valueAt(form, c.column(number, i), c.column(number, k))
			rest[i] = append(rest[i], rate[0]*c.Den*c.Den*entry-rate[1]*image)
		}
	}
	for set := range sets(c.parts) {
		if minor(rest, set).sign() < 0 {
			return false
		}
	}
	return true
}

// column returns the sums of a map at the state that has 1 in the place of k, and 0 elsewhere.
func (c checkedPlant) column(number, k int) []int {
	var column []int
	for _, row := range c.Maps[number] {
		column = append(column, row[k])
	}
	return column
}
