package levitate

import (
	"slices"

	"guideway/api"
)

// CheckFrame returns the first error of a frame, and the magnet that has it.
func CheckFrame(f api.LevitateFrame) (int, api.Errno) {
	switch {
	case len(f.Factors) == 0:
		return 0, api.ErrShape
	case len(f.Factors) > api.MaxLevitateMagnets:
		return 0, api.ErrLarge
	}
	for i, factor := range f.Factors {
		if !within(factor, 1, api.MaxLevitateFactor) {
			return i, api.ErrRange
		}
	}
	switch {
	case !within(f.Load, 0, api.MaxLevitateLoad), !isGap(f.Gap), !within(f.Current, 0, api.MaxLevitateCurrent):
		return 0, api.ErrRange
	case f.Gap.Lo > f.Gap.Hi:
		return 0, api.ErrOrder
	}
	return 0, api.OK
}

// Carries returns whether a frame is carried with some magnets out.
func Carries(f api.LevitateFrame, out []int) (bool, api.Errno) {
	if _, err := CheckFrame(f); err != api.OK {
		return false, err
	}
	last := -1
	for _, magnet := range out {
		if magnet < 0 || magnet >= len(f.Factors) {
			return false, api.ErrMissing
		}
		if magnet <= last {
			return false, api.ErrOrder
		}
		last = magnet
	}
	return carries(f, out), api.OK
}

// FewestOut returns the least set of magnets with which out a frame is not carried.
func FewestOut(f api.LevitateFrame) ([]int, api.Errno) {
	if _, err := CheckFrame(f); err != api.OK {
		return nil, err
	}
	for out := range sets(len(f.Factors)) {
		if !carries(f, out) {
			return out, api.OK
		}
	}
	return nil, api.ErrNone
}

func carries(f api.LevitateFrame, out []int) bool {
	// All magnets have one current and one gap here: so their forces add up as their factors do.
	sum := 0
	for i, factor := range f.Factors {
		if !slices.Contains(out, i) {
			sum += factor
		}
	}
	return lifts(sum, f.Current, f.Gap.Hi, f.Load)
}
