package stator

import "guideway/api"

// Handed returns the vectors of a change from a current to another one.
func Handed(from, to api.Third, steps int) ([]api.Third, api.Errno) {
	if err := checkVectors([]api.Third{from, to}); err != api.OK {
		return nil, err
	}
	if !within(steps, 1, api.MaxStatorSteps) {
		return nil, api.ErrRange
	}
	whole := minus(to, from)
	var change []api.Third
	for k := 1; k <= steps; k++ {
		part := api.Third{A: floor(k*whole.A, steps), B: floor(k*whole.B, steps)}
		change = append(change, plus(from, part))
	}
	return change, api.OK
}
