package stator

import (
	"iter"

	"guideway/api"
)

// stateVectors are the vectors of a converter's states.
var stateVectors = [api.StatorStates]api.Third{
	{A: 0, B: 0}, {A: -1, B: -1}, {A: 0, B: 1}, {A: -1, B: 0},
	{A: 1, B: 0}, {A: 0, B: -1}, {A: 1, B: 1}, {A: 0, B: 0},
}

// StateVector returns the vector of a state.
func StateVector(state int) (api.Third, api.Errno) {
	if !within(state, 0, api.StatorStates-1) {
		return api.Third{}, api.ErrRange
	}
	return stateVectors[state], api.OK
}

// IsNear returns whether a vector is near, for a scale.
func IsNear(scale int, v api.Third) (bool, api.Errno) {
	if err := checkScaled(scale, v); err != api.OK {
		return false, err
	}
	for _, phase := range phases(v) {
		if size(phase) > scale {
			return false, api.OK
		}
	}
	return true, api.OK
}

// Nearest returns the nearest state to a vector, for a scale.
func Nearest(scale int, v api.Third) (int, api.Errno) {
	if err := checkScaled(scale, v); err != api.OK {
		return 0, err
	}
	return nearest(scale, v), api.OK
}

// Modulated returns the pulses for wanted vectors.
func Modulated(scale int, wants []api.Third) (api.StatorPulses, api.Errno) {
	if err := checkScale(scale); err != api.OK {
		return api.StatorPulses{}, err
	}
	if len(wants) > api.MaxStatorPulses {
		return api.StatorPulses{}, api.ErrLarge
	}
	var pulses api.StatorPulses
	var left api.Third
	for want, err := range wanted(wants) {
		if err != api.OK {
			return api.StatorPulses{}, err
		}
		left = plus(left, want)
		state := nearest(scale, left)
		left = without(scale, left, state)
		pulses.States = append(pulses.States, state)
		pulses.Left = append(pulses.Left, left)
	}
	return pulses, api.OK
}

// wanted yields wants, each with its error.
func wanted(wants []api.Third) iter.Seq2[api.Third, api.Errno] {
	return func(yield func(api.Third, api.Errno) bool) {
		for _, want := range wants {
			if !yield(want, checkVector(want)) {
				return
			}
		}
	}
}

func checkScale(scale int) api.Errno {
	if !within(scale, 1, api.MaxStatorPart) {
		return api.ErrRange
	}
	return api.OK
}

func checkScaled(scale int, v api.Third) api.Errno {
	if err := checkScale(scale); err != api.OK {
		return err
	}
	return checkVector(v)
}

func nearest(scale int, v api.Third) int {
	best := 0
	for state := range stateVectors {
		if square(without(scale, v, state)) < square(without(scale, v, best)) {
			best = state
		}
	}
	return best
}

// without returns what is left of a vector when that of a state goes off.
func without(scale int, v api.Third, state int) api.Third {
	return minus(v, scaled(scale, stateVectors[state]))
}
