package stator

import "guideway/api"

// ForceOf returns the force of a current on a flux.
func ForceOf(current, flux api.Third) (int, api.Errno) {
	if err := checkVectors([]api.Third{current, flux}); err != api.OK {
		return 0, err
	}
	return force(current, flux), api.OK
}

// MarginOf returns how far the angle between a current and a flux is away from the best one.
func MarginOf(current, flux api.Third) (int, api.Errno) {
	if err := checkVectors([]api.Third{current, flux}); err != api.OK {
		return 0, err
	}
	between := times(current, conjugate(flux))
	off := size(2*between.A - between.B)
	switch {
	case between.B <= 0:
		return api.StatorSlip, api.OK
	case off <= between.B:
		return api.StatorClose, api.OK
	case off <= 3*between.B:
		return api.StatorSafe, api.OK
	}
	return api.StatorSlip, api.OK
}

// Even returns whether all currents have the same force on a flux.
func Even(currents []api.Third, flux api.Third) (bool, api.Errno) {
	switch {
	case len(currents) == 0:
		return false, api.ErrShape
	case len(currents) > api.MaxStatorSections:
		return false, api.ErrLarge
	}
	if err := checkVectors(currents); err != api.OK {
		return false, err
	}
	if err := checkVector(flux); err != api.OK {
		return false, err
	}
	for _, current := range currents {
		if force(current, flux) != force(currents[0], flux) {
			return false, api.OK
		}
	}
	return true, api.OK
}

func force(current, flux api.Third) int {
	return times(current, conjugate(flux)).B
}
