package timetable

import (
	"slices"

	"guideway/api"
)

// step embeds a step, and tells its ends and its length.
type step struct {
	api.TimetableStep
	from, to, length int
}

// walk is linked back: it goes on from the walk before by a last step. Without a walk before it has no steps, and is where
// walks begin. A walk is never changed, so that many may go on from it.
type walk struct {
	before             *walk
	last               api.TimetableStep
	begin, end, length int
}

// stepOf returns a step with its ends and its length, or its error.
func (c checkedNet) stepOf(s api.TimetableStep) (step, api.Errno) {
	if err := errorOfNumber(c.Activities, s.Activity); err != api.OK {
		return step{}, err
	}
	a := c.Activities[s.Activity]
	switch {
	case !s.Back:
		return step{s, a.From, a.To, a.Least}, api.OK
	case a.Most == api.TimetableOpen:
		return step{}, api.ErrOpen
	}
	return step{s, a.To, a.From, -a.Most}, api.OK
}

// steps yields all steps of a net.
func (c checkedNet) steps(yield func(step) bool) {
	for i := range c.Activities {
		for _, back := range []bool{false, true} {
			s, err := c.stepOf(api.TimetableStep{Activity: i, Back: back})
			if err == api.OK && !yield(s) {
				return
			}
		}
	}
}

// beginAt returns a walk without steps.
func beginAt(event, length int) *walk {
	return &walk{begin: event, end: event, length: length}
}

// beginAll returns a walk without steps for each event, with these lengths.
func beginAll(lengths []int) []*walk {
	walks := make([]*walk, len(lengths))
	for event, length := range lengths {
		walks[event] = beginAt(event, length)
	}
	return walks
}

// on returns the walk that goes on by a step.
func (w *walk) on(s step) *walk {
	return &walk{w, s.TimetableStep, w.begin, s.to, w.length + s.length}
}

// walkOf returns the walk of some steps, or their first error.
func (c checkedNet) walkOf(l []api.TimetableStep) (*walk, api.Errno) {
	switch {
	case len(l) > api.MaxTimetableSteps:
		return nil, api.ErrLarge
	case len(l) == 0:
		return nil, api.ErrShape
	}
	var w *walk
	for i, told := range l {
		s, err := c.stepOf(told)
		if err != api.OK {
			return nil, err
		}
		if i == 0 {
			w = beginAt(s.from, 0)
		}
		if s.from != w.end {
			return nil, api.ErrGap
		}
		w = w.on(s)
	}
	return w, api.OK
}

// stepsOf undoes walkOf.
func (w *walk) stepsOf() []api.TimetableStep {
	var l []api.TimetableStep
	for ; w.before != nil; w = w.before {
		l = append(l, w.last)
	}
	slices.Reverse(l)
	return l
}

// round returns the last steps of a walk that lead from an event back to it, without meeting any event twice between, or
// no steps if there are none such.
func (w *walk) round() []api.TimetableStep {
	events := []int{w.end}
	var l []api.TimetableStep
	for ; w.before != nil; w = w.before {
		l = append(l, w.last)
		// The step at a place of the list leads to the event at the same place.
		if i := slices.Index(events, w.before.end); i >= 0 {
			l = l[i:]
			slices.Reverse(l)
			return l
		}
		events = append(events, w.before.end)
	}
	return nil
}

// goOn returns, for each event, the longest one of the walk that is told for it and of those that go on to it by one step;
// nil is no walk.
func (c checkedNet) goOn(walks []*walk) []*walk {
	longest := slices.Clone(walks)
	for s := range c.steps {
		before, known := walks[s.from], longest[s.to]
		if before != nil && (known == nil || before.length+s.length > known.length) {
			longest[s.to] = before.on(s)
		}
	}
	return longest
}

// longest returns, for each event, the longest walk that goes on to it from one of those told, by at most as many steps as
// there are events less 1. More steps would meet an event twice, and make it no longer if there is no cycle.
func (c checkedNet) longest(walks []*walk) []*walk {
	for range len(c.Events) - 1 {
		walks = c.goOn(walks)
	}
	return walks
}

// endless returns a walk whose round is a cycle, or nil if there is no cycle. The walk has as many steps as there are events:
// so it has a round. It is longer than all walks with fewer steps that lead to the same event, and so than what is left of
// it without the round: so the round's length is above 0.
func (c checkedNet) endless() *walk {
	walks := c.longest(beginAll(make([]int, len(c.Events))))
	for event, w := range c.goOn(walks) {
		if w.length > walks[event].length {
			return w
		}
	}
	return nil
}
