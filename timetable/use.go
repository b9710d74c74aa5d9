package timetable

import "guideway/api"

// FirstClose returns the first pair of uses of one section that are too close.
func FirstClose(n api.TimetableNet, times []int, u api.TimetableUses) ([2]int, api.Errno) {
	t, err := checkTimed(n, times)
	if err == api.OK {
		err = t.errorOfUses(u)
	}
	if err != api.OK {
		return [2]int{}, err
	}
	for i, first := range u.Uses {
		for k, second := range u.Uses[i+1:] {
			if first.Section == second.Section && !t.isAhead(first, second, u.Gap) && !t.isAhead(second, first, u.Gap) {
				return [2]int{i, i + 1 + k}, api.OK
			}
		}
	}
	return [2]int{}, api.ErrNone
}

// errorOfUses returns what is wrong with uses.
func (t timedNet) errorOfUses(u api.TimetableUses) api.Errno {
	if len(u.Uses) > api.MaxTimetableUses {
		return api.ErrLarge
	}
	_, err := firstWrong(u.Uses, func(_ []api.TimetableUse, use api.TimetableUse) api.Errno {
		switch {
		case !within(use.Section, 0, api.MaxTimetableSection):
			return api.ErrRange
		case errorOfNumber(t.Events, use.Enter) != api.OK, errorOfNumber(t.Events, use.Leave) != api.OK:
			return api.ErrMissing
		case t.times[use.Leave] < t.times[use.Enter]:
			return api.ErrOrder
		}
		return api.OK
	})
	if err == api.OK && !within(u.Gap, 0, api.MaxTimetableLeast) {
		err = api.ErrRange
	}
	return err
}

// isAhead tells whether a use leaves at least the gap before another one enters.
func (t timedNet) isAhead(first, second api.TimetableUse, gap int) bool {
	return t.times[first.Leave]+gap <= t.times[second.Enter]
}
