package timetable

import "guideway/api"

// CheckPeriodic returns the first error of a net, of a period and of periodic times, and the first activity that they do
// not keep.
func CheckPeriodic(n api.TimetableNet, times []int, period int) (int, api.Errno) {
	c, err := check(n, errorOfPeriod(period), errorOfTimes(n, times, period-1))
	if err != api.OK {
		return 0, err
	}
	return c.firstBroken(func(a api.TimetableActivity) bool { return isKeptEach(a, times, period) })
}

// FirstPeriodic returns the first right periodic times.
func FirstPeriodic(n api.TimetableNet, period int) ([]int, api.Errno) {
	c, err := check(n, errorOfPeriod(period))
	switch {
	case err != api.OK:
		return nil, err
	case len(c.Events) > api.MaxTimetablePeriodic:
		return nil, api.ErrLarge
	}
	times, ok := c.firstFrom(nil, period)
	if !ok {
		return nil, api.ErrNone
	}
	return times, api.OK
}

func errorOfPeriod(period int) api.Errno {
	if !within(period, 1, api.MaxTimetablePeriod) {
		return api.ErrRange
	}
	return api.OK
}

// firstFrom returns the first right periodic times that begin with those told, false if there are none. The last one told
// is asked at once for what it breaks, so that most of what cannot be right is not gone on with.
func (c checkedNet) firstFrom(told []int, period int) ([]int, bool) {
	_, err := c.firstBroken(func(a api.TimetableActivity) bool {
		return max(a.From, a.To) >= len(told) || isKeptEach(a, told, period)
	})
	if err != api.OK || len(told) == len(c.Events) {
		return told, err == api.OK
	}
	for time := range period {
		if times, ok := c.firstFrom(append(told, time), period); ok {
			return times, true
		}
	}
	return nil, false
}

// isKeptEach tells whether periodic times keep an activity in each period.
func isKeptEach(a api.TimetableActivity, times []int, period int) bool {
	return a.Most == api.TimetableOpen || modulo(times[a.To]-times[a.From]-a.Least, period) <= a.Most-a.Least
}

// modulo returns the remainder from 0 on.
func modulo(x, period int) int {
	return (x%period + period) % period
}
