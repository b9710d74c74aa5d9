package timetable

import (
	"slices"

	"guideway/api"
)

// CheckNet returns the first error of a net, and the event or the activity that has it.
func CheckNet(n api.TimetableNet) (api.TimetableMark, api.Errno) {
	switch {
	case len(n.Events) == 0:
		return api.TimetableMark{}, api.ErrShape
	case len(n.Events) > api.MaxTimetableEvents:
		return api.TimetableMark{}, api.ErrLarge
	}
	if i, err := firstWrong(n.Events, errorOfName); err != api.OK {
		return api.TimetableMark{List: api.TimetableEvents, Number: i}, err
	}
	if len(n.Activities) > api.MaxTimetableActivities {
		return api.TimetableMark{}, api.ErrLarge
	}
	errorOfOne := func(_ []api.TimetableActivity, a api.TimetableActivity) api.Errno { return errorOfActivity(n, a) }
	if i, err := firstWrong(n.Activities, errorOfOne); err != api.OK {
		return api.TimetableMark{List: api.TimetableActivities, Number: i}, err
	}
	return api.TimetableMark{}, api.OK
}

// errorOfName returns the error of the name of an event.
func errorOfName(earlier []string, name string) api.Errno {
	switch {
	case !isName(name):
		return api.ErrName
	case slices.Contains(earlier, name):
		return api.ErrExists
	}
	return api.OK
}

// errorOfActivity returns the error of an activity of a net whose events are right.
func errorOfActivity(n api.TimetableNet, a api.TimetableActivity) api.Errno {
	isOpen := a.Most == api.TimetableOpen
	switch {
	case !within(a.Kind, 0, api.TimetableKinds-1):
		return api.ErrKind
	case errorOfNumber(n.Events, a.From) != api.OK, errorOfNumber(n.Events, a.To) != api.OK:
		return api.ErrMissing
	case a.From == a.To:
		return api.ErrDouble
	case !within(a.Least, 1, api.MaxTimetableLeast),
		!isOpen && !within(a.Most, 1, api.MaxTimetableLeast),
		!within(a.Wait, 0, api.MaxTimetableLeast):
		return api.ErrRange
	case !isOpen && a.Most < a.Least:
		return api.ErrOrder
	case a.Kind != api.TimetableConnect && a.Wait != 0:
		return api.ErrForm
	}
	return api.OK
}

// Without returns a net without one of its activities.
func Without(n api.TimetableNet, activity int) (api.TimetableNet, api.Errno) {
	c, err := check(n, errorOfNumber(n.Activities, activity))
	if err != api.OK {
		return api.TimetableNet{}, err
	}
	return api.TimetableNet{
		Events:     slices.Clone(c.Events),
		Activities: slices.Concat(c.Activities[:activity], c.Activities[activity+1:]),
	}, api.OK
}
