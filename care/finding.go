package care

import (
	"slices"

	"guideway/api"
)

// OpenOf returns the beams of all open findings.
func OpenOf(l []api.CareFinding, limit int) ([]int, api.Errno) {
	if err := errorOfFindings(l, limit); err != api.OK {
		return nil, err
	}
	last := map[int]api.CareFinding{} // by beam
	for _, f := range l {
		last[f.Beam] = f
	}
	var open []int
	for beam, f := range last {
		if sizeOf(f.Off) > limit {
			open = append(open, beam)
		}
	}
	slices.Sort(open)
	return open, api.OK
}

func errorOfFindings(l []api.CareFinding, limit int) api.Errno {
	if len(l) > api.MaxCareFindings {
		return api.ErrLarge
	}
	_, err := firstWrong(l, func(_ []api.CareFinding, f api.CareFinding) api.Errno { return errorOfFinding(f) })
	if err == api.OK && !within(limit, 0, api.MaxCareOff) {
		err = api.ErrRange
	}
	return err
}

func errorOfFinding(f api.CareFinding) api.Errno {
	if !isName(f.Name) {
		return api.ErrName
	}
	isRight := within(f.Date, 0, api.MaxDate) && within(f.Beam, 0, api.MaxCareBeam) && within(f.Off, -api.MaxCareOff, api.MaxCareOff)
	if !isRight {
		return api.ErrRange
	}
	return api.OK
}
