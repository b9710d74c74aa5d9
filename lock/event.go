package lock

import (
	"slices"

	"guideway/api"
)

// CheckEvent returns the first error of a plant and an event.
func CheckEvent(p api.LockPlant, e api.LockEvent) api.Errno {
	_, err := check(p, errorOfEvent(p, e))
	return err
}

// Apply returns the state behind an event.
func Apply(p api.LockPlant, x api.LockState, e api.LockEvent) (api.LockState, api.Errno) {
	c, err := checkBoth(p, x, errorOfEvent(p, e))
	if err != api.OK {
		return api.LockState{}, err
	}
	return c.behind(x, e)
}

// Replay returns the state behind events, from the beginning on; beside an error of an event, its number.
func Replay(p api.LockPlant, l []api.LockEvent) (api.LockState, int, api.Errno) {
	c, err := check(p)
	switch {
	case err != api.OK:
		return api.LockState{}, 0, err
	case len(l) > api.MaxLockEvents:
		return api.LockState{}, 0, api.ErrLarge
	}
	x := c.begin()
	for i, e := range l {
		if err = errorOfEvent(p, e); err == api.OK {
			x, err = c.behind(x, e)
		}
		if err != api.OK {
			return api.LockState{}, i, err
		}
	}
	return x, 0, api.OK
}

// Possible returns all events that Apply accepts.
func Possible(p api.LockPlant, x api.LockState) ([]api.LockEvent, api.Errno) {
	c, err := checkBoth(p, x)
	if err != api.OK {
		return nil, err
	}
	var accepted []api.LockEvent
	for e := range c.events {
		if c.refusal(x, e) == api.OK {
			accepted = append(accepted, e)
		}
	}
	return accepted, api.OK
}

// sizes returns how many numbers there are for A and for B of events of a kind, from 0 on.
func sizes(p api.LockPlant, kind int) (int, int) {
	switch kind {
	case api.LockPlace:
		return len(p.Trains), len(p.Sections)
	case api.LockRequest:
		return len(p.Trains), len(p.Routes)
	case api.LockTurn:
		return len(p.Switches), positions
	}
	return len(p.Trains), 1
}

// errorOfEvent returns the error of an event; no error of the plant is asked for.
func errorOfEvent(p api.LockPlant, e api.LockEvent) api.Errno {
	if !isKind(e.Kind) {
		return api.ErrKind
	}
	as, bs := sizes(p, e.Kind)
	switch {
	case !within(e.A, 0, as-1):
		return api.ErrMissing
	case within(e.B, 0, bs-1):
		return api.OK
	}
	switch e.Kind {
	case api.LockPlace, api.LockRequest:
		return api.ErrMissing
	case api.LockTurn:
		return api.ErrRange
	}
	return api.ErrForm
}

func isKind(number int) bool {
	return within(number, 0, api.LockKinds-1)
}

// events yields all events that are right, ascending.
func (c checkedPlant) events(yield func(api.LockEvent) bool) {
	for kind := range api.LockKinds {
		as, bs := sizes(c.LockPlant, kind)
		for a := range as {
			for b := range bs {
				if !yield(api.LockEvent{Kind: kind, A: a, B: b}) {
					return
				}
			}
		}
	}
}

// refusal returns why an event that is right is not accepted.
func (c checkedPlant) refusal(x api.LockState, e api.LockEvent) api.Errno {
	if e.Kind == api.LockTurn {
		return errorIf(isTaken(x.Trains, c.Switches[e.A].Section), api.ErrBusy)
	}
	train := x.Trains[e.A]
	isOnLine := len(train.Chain) > 0
	if isOnLine == (e.Kind == api.LockPlace) {
		return api.ErrState
	}
	switch e.Kind {
	case api.LockPlace:
		return errorIf(isTaken(x.Trains, e.B), api.ErrBusy)
	case api.LockRequest:
		return c.refusalOfRoute(x, train, c.Routes[e.B])
	case api.LockEnter, api.LockGive:
		return errorIf(train.Under == len(train.Chain), api.ErrNone)
	case api.LockLeave:
		return errorIf(train.Under == 1, api.ErrNone)
	}
	return errorIf(len(train.Chain) > 1, api.ErrBusy) // api.LockTake
}

// refusalOfRoute returns why a train on the line does not get a route.
func (c checkedPlant) refusalOfRoute(x api.LockState, train api.LockTrain, r api.LockRoute) api.Errno {
	switch {
	case r.Sections[0] != train.Chain[len(train.Chain)-1]:
		return api.ErrOpen
	case slices.ContainsFunc(r.Sections[1:], func(section int) bool { return isTaken(x.Trains, section) }):
		return api.ErrBusy
	}
	return errorIf(!c.fits(x.Switches, r, r.Sections), api.ErrClash)
}

// behind returns the state behind an event that is right, or why it is not accepted.
func (c checkedPlant) behind(x api.LockState, e api.LockEvent) (api.LockState, api.Errno) {
	if err := c.refusal(x, e); err != api.OK {
		return api.LockState{}, err
	}
	next := copied(x)
	if e.Kind == api.LockTurn {
		next.Switches[e.A] = e.B
		return next, api.OK
	}
	train := &next.Trains[e.A]
	switch e.Kind {
	case api.LockPlace:
		*train = api.LockTrain{Chain: []int{e.B}, Under: 1}
	case api.LockRequest:
		train.Chain = append(train.Chain, c.Routes[e.B].Sections[1:]...)
	case api.LockEnter:
		train.Under++
	case api.LockLeave:
		train.Chain = train.Chain[1:]
		train.Under--
	case api.LockGive:
		train.Chain = train.Chain[:len(train.Chain)-1]
	case api.LockTake:
		*train = api.LockTrain{}
	}
	return next, api.OK
}

// copied returns a state that shares no memory with another one.
func copied(x api.LockState) api.LockState {
	x.Switches = slices.Clone(x.Switches)
	x.Trains = slices.Clone(x.Trains)
	for i, t := range x.Trains {
		x.Trains[i].Chain = slices.Clone(t.Chain)
	}
	return x
}

func errorIf(holds bool, err api.Errno) api.Errno {
	if holds {
		return err
	}
	return api.OK
}
