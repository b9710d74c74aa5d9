package levitate

import "guideway/api"

// CheckProof accepts a proof, and returns the bounds of all numbers.
func CheckProof(p api.LevitatePlant, proof api.LevitateProof) ([]int, api.Errno) {
	c, _, err := checkLessened(p, proof.Form, proof.Rate)
	if err != api.OK {
		return nil, err
	}
	if !within(proof.Level, 0, api.MaxLevitateLevel) {
		return nil, api.ErrRange
	}
	if !isKept(proof.Level, proof.Rate, c.worst(proof.Form)) {
		return nil, api.ErrProof
	}
	bounds := make([]int, c.parts)
	for i := range bounds {
		bounds[i] = bound(proof, i)
	}
	return bounds, api.OK
}

// LeastLevel returns the least level that is kept.
func LeastLevel(p api.LevitatePlant, form [][]int, rate [2]int) (int, api.Errno) {
	c, _, err := checkLessened(p, form, rate)
	if err != api.OK {
		return 0, err
	}
	worst := c.worst(form)
	// In the level A A is a parabola and what it must reach a line, which is not below it where A is 0: so from there on
	// the parabola overtakes the line only once, and if a level is kept, all greater ones are.
	level, some := least(api.MaxLevitateLevel, func(level int) bool { return isKept(level, rate, worst) })
	if !some {
		return 0, api.ErrNone
	}
	return level, api.OK
}

func isKept(level int, rate [2]int, worst int) bool {
	num, den := rate[0], rate[1]
	spare := (den-num)*level - den*worst
	if spare < 0 {
		return false
	}
	square := widen(spare).times(widen(spare))
	needed := widen(4 * num * den).times(widen(level)).times(widen(worst))
	return square.minus(needed).sign() >= 0
}

// bound returns the bound of a number, for the form and the level of a proof.
func bound(proof api.LevitateProof, number int) int {
	var others []int
	for i := range proof.Form {
		if i != number {
			others = append(others, i)
		}
	}
	most := widen(proof.Level).times(minor(proof.Form, others))
	whole := determinant(proof.Form)
	above, _ := least(api.MaxNumber, func(x int) bool {
		return widen(x).times(widen(x)).times(whole).minus(most).sign() > 0
	})
	return above - 1
}
