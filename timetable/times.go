package timetable

import (
	"slices"

	"guideway/api"
)

// CheckTimes returns the first error of a net and of times, and the first activity that they do not keep.
func CheckTimes(n api.TimetableNet, times []int) (int, api.Errno) {
	c, err := check(n, errorOfTimes(n, times, api.MaxTimetableTime))
	if err != api.OK {
		return 0, err
	}
	return c.firstBroken(func(a api.TimetableActivity) bool { return isKept(a, times) })
}

// Earliest returns the least right times none of which is less than the one told.
func Earliest(n api.TimetableNet, from []int) ([]int, api.Errno) {
	c, err := check(n, errorOfTimes(n, from, api.MaxTimetableTime))
	switch {
	case err != api.OK:
		return nil, err
	case c.endless() != nil:
		return nil, api.ErrCycle
	}
	times := make([]int, len(c.Events))
	for event, w := range c.longest(beginAll(from)) {
		times[event] = w.length
	}
	if slices.Max(times) > api.MaxTimetableTime {
		return nil, api.ErrLarge
	}
	return times, api.OK
}

// ReserveOf returns the reserve of an activity.
func ReserveOf(n api.TimetableNet, times []int, activity int) (int, api.Errno) {
	t, err := checkTimed(n, times, errorOfNumber(n.Activities, activity))
	if err != api.OK {
		return 0, err
	}
	return t.reserveOf(t.Activities[activity]), api.OK
}

func (t timedNet) reserveOf(a api.TimetableActivity) int {
	return t.times[a.To] - t.times[a.From] - a.Least
}

// FreedomOf returns the times that an event may have while the others are as they are.
func FreedomOf(n api.TimetableNet, times []int, event int) (api.Range, api.Errno) {
	t, err := checkTimed(n, times, errorOfNumber(n.Events, event))
	if err != api.OK {
		return api.Range{}, err
	}
	free := api.Range{Hi: api.MaxTimetableTime}
	// Along a step an event is later than another one by at least the length, so each step to it or from it is a bound.
	for s := range t.steps {
		switch event {
		case s.to:
			free.Lo = max(free.Lo, t.times[s.from]+s.length)
		case s.from:
			free.Hi = min(free.Hi, t.times[s.to]-s.length)
		}
	}
	return free, api.OK
}

// errorOfTimes returns what is wrong with times of a net that are at most so great.
func errorOfTimes(n api.TimetableNet, times []int, most int) api.Errno {
	if len(times) != len(n.Events) {
		return api.ErrShape
	}
	if slices.ContainsFunc(times, func(time int) bool { return !within(time, 0, most) }) {
		return api.ErrRange
	}
	return api.OK
}

// firstBroken returns ErrBreak and the first activity that is not kept, if there is one.
func (c checkedNet) firstBroken(isKept func(api.TimetableActivity) bool) (int, api.Errno) {
	return firstWrong(c.Activities, func(_ []api.TimetableActivity, a api.TimetableActivity) api.Errno {
		if !isKept(a) {
			return api.ErrBreak
		}
		return api.OK
	})
}

// isKept tells whether times keep an activity.
func isKept(a api.TimetableActivity, times []int) bool {
	takes := times[a.To] - times[a.From]
	return takes >= a.Least && (a.Most == api.TimetableOpen || takes <= a.Most)
}
