package timetable

import (
	"cmp"
	"slices"

	"guideway/api"
)

// Late returns what becomes of delays.
func Late(n api.TimetableNet, times []int, delays []api.TimetableDelay) (api.TimetableLate, api.Errno) {
	t, err := checkTimed(n, times, errorOfDelays(n, delays))
	if err != api.OK {
		return api.TimetableLate{}, err
	}
	return t.late(delays), api.OK
}

// LateEvents returns the numbers of all late events.
func LateEvents(n api.TimetableNet, times []int, delays []api.TimetableDelay) ([]int, api.Errno) {
	t, err := checkTimed(n, times, errorOfDelays(n, delays))
	if err != api.OK {
		return nil, err
	}
	actual := t.late(delays).Times
	return numbersBelow(len(actual), func(event int) bool { return actual[event] > t.times[event] }), api.OK
}

// MostDelay returns the greatest delay of an event alone with which no other event is late, and no connection is given up.
func MostDelay(n api.TimetableNet, times []int, event int) (int, api.Errno) {
	t, err := checkTimed(n, times, errorOfNumber(n.Events, event))
	if err != api.OK {
		return 0, err
	}
	// Up to these bounds nothing goes on from the event; beyond one of them something does at once.
	most := api.MaxTimetableDelay
	for _, a := range t.Activities {
		if a.From != event {
			continue
		}
		most = min(most, t.reserveOf(a))
		if a.Kind == api.TimetableConnect {
			most = min(most, a.Wait)
		}
	}
	return most, api.OK
}

// errorOfDelays returns what is wrong with delays.
func errorOfDelays(n api.TimetableNet, delays []api.TimetableDelay) api.Errno {
	if len(delays) > api.MaxTimetableDelays {
		return api.ErrLarge
	}
	_, err := firstWrong(delays, func(earlier []api.TimetableDelay, d api.TimetableDelay) api.Errno {
		isOfSame := func(other api.TimetableDelay) bool { return other.Event == d.Event }
		switch {
		case errorOfNumber(n.Events, d.Event) != api.OK:
			return api.ErrMissing
		case !isDelay(d.By):
			return api.ErrRange
		case slices.ContainsFunc(earlier, isOfSame):
			return api.ErrDouble
		}
		return api.OK
	})
	return err
}

// isDelay tells whether an event may be late by so much by itself.
func isDelay(by int) bool {
	return within(by, 1, api.MaxTimetableDelay)
}

// late returns what becomes of delays that are right.
func (t timedNet) late(delays []api.TimetableDelay) api.TimetableLate {
	actual := slices.Clone(t.times)
	for _, d := range delays {
		actual[d.Event] += d.By
	}
	isGivenUp := func(number int) bool {
		a := t.Activities[number]
		return a.Kind == api.TimetableConnect && actual[a.From]-t.times[a.From] > a.Wait
	}
	for _, event := range t.inOrder() {
		for i, a := range t.Activities {
			if a.To == event && !isGivenUp(i) {
				actual[event] = max(actual[event], actual[a.From]+a.Least)
			}
		}
	}
	return api.TimetableLate{Times: actual, GivenUp: numbersBelow(len(t.Activities), isGivenUp)}
}

// inOrder returns the numbers of all events, ascending by their times, then by their numbers.
func (t timedNet) inOrder() []int {
	events := make([]int, len(t.times))
	for i := range events {
		events[i] = i
	}
	slices.SortStableFunc(events, func(a, b int) int { return cmp.Compare(t.times[a], t.times[b]) })
	return events
}
