package levitate

import (
	"iter"

	"guideway/api"
)

// StepOf returns the state behind a step.
func StepOf(p api.LevitatePlant, x []int, s api.LevitateSample) ([]int, api.Errno) {
	run, err := RunOf(p, x, []api.LevitateSample{s})
	if err != api.OK {
		return nil, err
	}
	return run[0], api.OK
}

// RunOf returns the states behind each of some samples.
func RunOf(p api.LevitatePlant, x []int, l []api.LevitateSample) ([][]int, api.Errno) {
	c, err := checkRun(p, x, l)
	if err != api.OK {
		return nil, err
	}
	var run [][]int
	for state, err := range c.states(x, l) {
		if err != api.OK {
			return nil, err
		}
		run = append(run, state)
	}
	return run, api.OK
}

// Excursion returns the greatest size that each number of a state has in a run.
func Excursion(p api.LevitatePlant, x []int, l []api.LevitateSample) ([]int, api.Errno) {
	c, err := checkRun(p, x, l)
	if err != api.OK {
		return nil, err
	}
	sizes := make([]int, c.parts)
	raise(sizes, x)
	for state, err := range c.states(x, l) {
		if err != api.OK {
			return nil, err
		}
		raise(sizes, state)
	}
	return sizes, api.OK
}

// raise makes each size at least as great as that of a state's number.
func raise(sizes, x []int) {
	for i, number := range x {
		sizes[i] = max(sizes[i], size(number))
	}
}

func checkRun(p api.LevitatePlant, x []int, l []api.LevitateSample) (checkedPlant, api.Errno) {
	c, err := check(p)
	if err != api.OK {
		return checkedPlant{}, err
	}
	if err := checkState(x, c.parts); err != api.OK {
		return checkedPlant{}, err
	}
	if len(l) > api.MaxLevitateSamples {
		return checkedPlant{}, api.ErrLarge
	}
	for _, sample := range l {
		if err := c.checkSample(sample); err != api.OK {
			return checkedPlant{}, err
		}
	}
	return c, api.OK
}

func (c checkedPlant) checkSample(s api.LevitateSample) api.Errno {
	if s.Map < 0 || s.Map >= len(c.Maps) {
		return api.ErrMissing
	}
	if len(s.Noise) != c.parts {
		return api.ErrShape
	}
	for i, noise := range s.Noise {
		if exceeds(noise, c.Noise[i]) {
			return api.ErrRange
		}
	}
	return api.OK
}

// states yields the states behind each sample; it ends with ErrBreak in place of one that has too great a number.
func (c checkedPlant) states(x []int, l []api.LevitateSample) iter.Seq2[[]int, api.Errno] {
	return func(yield func([]int, api.Errno) bool) {
		state := x
		for _, sample := range l {
			state = c.step(state, sample)
			if checkState(state, c.parts) != api.OK {
				yield(nil, api.ErrBreak)
				return
			}
			if !yield(state, api.OK) {
				return
			}
		}
	}
}

func (c checkedPlant) step(x []int, s api.LevitateSample) []int {
	next := make([]int, c.parts)
	for i, row := range c.Maps[s.Map] {
		sum := 0
		for k, entry := range row {
			sum += entry * x[k]
		}
		next[i] = floor(sum, c.Den) + s.Noise[i]
	}
	return next
}
