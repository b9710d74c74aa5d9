package care

import (
	"slices"

	"guideway/api"
)

// checkedRecord embeds a record that is right, and has its suspects.
type checkedRecord struct {
	api.CareRecord
	suspects []int
}

// Suspects returns all suspects.
func Suspects(x api.CareRecord) ([]int, api.Errno) {
	c, err := checkRecord(x)
	return c.suspects, err
}

// LeastFaults returns the least set of beams that explains the readings.
func LeastFaults(x api.CareRecord) ([]int, api.Errno) {
	c, err := checkRecord(x)
	switch {
	case err != api.OK:
		return nil, err
	case !c.isExplained(c.suspects):
		return nil, api.ErrNone
	}
	return c.leastFaults(), api.OK
}

// CheckFaults returns how many beams there are, if they explain the readings.
func CheckFaults(x api.CareRecord, beams []int) (int, api.Errno) {
	c, err := checkRecord(x)
	if err == api.OK {
		_, err = firstWrong(beams, c.errorOfFault)
	}
	switch {
	case err != api.OK:
		return 0, err
	case !c.isExplained(beams):
		return 0, api.ErrGap
	}
	return len(beams), api.OK
}

func checkRecord(x api.CareRecord) (checkedRecord, api.Errno) {
	if err := errorOfRecord(x); err != api.OK {
		return checkedRecord{}, err
	}
	return checkedRecord{x, suspectsOf(x)}, api.OK
}

func errorOfRecord(x api.CareRecord) api.Errno {
	switch {
	case !within(x.Beams, 1, api.MaxCareBeams):
		return api.ErrRange
	case len(x.Readings) > api.MaxCareReadings:
		return api.ErrLarge
	}
	_, err := firstWrong(x.Readings, func(_ []api.CareReading, r api.CareReading) api.Errno {
		if err := firstOf(errorOfNumber(r.From, x.Beams), errorOfNumber(r.To, x.Beams)); err != api.OK {
			return err
		}
		if r.From > r.To {
			return api.ErrOrder
		}
		return api.OK
	})
	return err
}

// suspectsOf returns all beams over which no reading without anything wrong went.
func suspectsOf(x api.CareRecord) []int {
	var suspects []int
	for beam := range x.Beams {
		clears := func(r api.CareReading) bool { return !r.Wrong && within(beam, r.From, r.To) }
		if !slices.ContainsFunc(x.Readings, clears) {
			suspects = append(suspects, beam)
		}
	}
	return suspects
}

// errorOfFault returns what is wrong with one of the beams that are to explain the readings.
func (c checkedRecord) errorOfFault(earlier []int, beam int) api.Errno {
	if err := errorOfMember(earlier, beam, c.Beams); err != api.OK {
		return err
	}
	if !slices.Contains(c.suspects, beam) {
		return api.ErrClash
	}
	return api.OK
}

// isExplained tells whether each reading with something wrong went over one of some beams.
func (c checkedRecord) isExplained(beams []int) bool {
	return !slices.ContainsFunc(c.Readings, func(r api.CareReading) bool {
		isOver := func(beam int) bool { return within(beam, r.From, r.To) }
		return r.Wrong && !slices.ContainsFunc(beams, isOver)
	})
}

// leastFaults returns the least set of beams that explains the readings, if all suspects do. Its next beam is the first
// suspect behind which fewer beams are needed; no reading is left behind by it, as the beam that explains that reading would
// be an earlier such suspect.
func (c checkedRecord) leastFaults() []int {
	var faults []int
	needed := c.neededFrom(0)
	for _, beam := range c.suspects {
		behind := c.neededFrom(beam + 1)
		if behind < needed {
			faults = append(faults, beam)
			needed = behind
		}
	}
	return faults
}

// neededFrom returns how many beams at least explain the wrong readings that go over none ahead of a beam, if all suspects do:
// one as far behind as each of these readings permits, and those that are needed behind it.
func (c checkedRecord) neededFrom(first int) int {
	next, isNeeded := c.Beams, false
	for _, r := range c.Readings {
		if r.Wrong && r.From >= first {
			next, isNeeded = min(next, c.lastSuspect(r)), true
		}
	}
	if !isNeeded {
		return 0
	}
	return 1 + c.neededFrom(next+1)
}

// lastSuspect returns the last suspect over which a reading went that a suspect explains.
func (c checkedRecord) lastSuspect(r api.CareReading) int {
	behind, _ := slices.BinarySearch(c.suspects, r.To+1)
	return c.suspects[behind-1]
}
