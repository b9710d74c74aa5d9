package timetable

import "guideway/api"

// FindCycle returns a cycle.
func FindCycle(n api.TimetableNet) ([]api.TimetableStep, api.Errno) {
	c, err := check(n)
	if err != api.OK {
		return nil, err
	}
	w := c.endless()
	if w == nil {
		return nil, api.ErrNone
	}
	return w.round(), api.OK
}

// CheckCycle returns the length of a cycle, if it is one.
func CheckCycle(n api.TimetableNet, l []api.TimetableStep) (int, api.Errno) {
	c, err := check(n)
	if err != api.OK {
		return 0, err
	}
	w, err := c.walkOf(l)
	switch {
	case err != api.OK:
		return 0, err
	case w.begin != w.end, w.length <= 0:
		return 0, api.ErrProof
	}
	return w.length, api.OK
}

// Between returns the greatest length of a walk from an event to another one, and such a walk.
func Between(n api.TimetableNet, a, b int) (int, []api.TimetableStep, api.Errno) {
	c, err := check(n, errorOfNumber(n.Events, a), errorOfNumber(n.Events, b))
	switch {
	case err != api.OK:
		return 0, nil, err
	case a == b:
		return 0, nil, api.ErrDouble
	case c.endless() != nil:
		return 0, nil, api.ErrCycle
	}
	walks := make([]*walk, len(c.Events))
	walks[a] = beginAt(a, 0)
	w := c.longest(walks)[b]
	if w == nil {
		return 0, nil, api.ErrNone
	}
	return w.length, w.stepsOf(), api.OK
}

// CheckWalk returns the length of a walk from an event to another one, if it is one.
func CheckWalk(n api.TimetableNet, pair [2]int, l []api.TimetableStep) (int, api.Errno) {
	c, err := check(n, errorOfNumber(n.Events, pair[0]), errorOfNumber(n.Events, pair[1]))
	if err != api.OK {
		return 0, err
	}
	w, err := c.walkOf(l)
	switch {
	case err != api.OK:
		return 0, err
	case w.begin != pair[0], w.end != pair[1]:
		return 0, api.ErrProof
	}
	return w.length, api.OK
}
