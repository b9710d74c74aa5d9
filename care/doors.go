package care

import (
	"iter"
	"slices"

	"guideway/api"
)

// train embeds its state; rules are those of its doors.
type train struct {
	api.CareState
	rules api.CareDoors
}

// CheckDoors returns the error of doors.
func CheckDoors(r api.CareDoors) api.Errno {
	isRight := within(r.Doors, 1, api.MaxCareDoors) && within(r.Target, 0, api.MaxPlace) && within(r.Slack, 0, api.MaxCareSlack)
	if !isRight {
		return api.ErrRange
	}
	return api.OK
}

// Begin returns the state in which a train stands at a place, with everything shut.
func Begin(r api.CareDoors, place int) (api.CareState, api.Errno) {
	t, err := begin(r, place)
	return t.CareState, err
}

// CheckState returns the first error of doors and a state.
func CheckState(r api.CareDoors, s api.CareState) api.Errno {
	_, err := trainOf(r, s)
	return err
}

// Apply returns the state behind an event.
func Apply(r api.CareDoors, s api.CareState, e api.CareEvent) (api.CareState, api.Errno) {
	t, err := trainOf(r, s)
	if err == api.OK {
		err = t.take(e)
	}
	if err != api.OK {
		return api.CareState{}, err
	}
	return t.CareState, api.OK
}

// Replay returns the state behind events, from the beginning at a place on; beside an error of an event, its number.
func Replay(r api.CareDoors, place int, l []api.CareEvent) (api.CareState, int, api.Errno) {
	t, err := begin(r, place)
	if err == api.OK && len(l) > api.MaxCareEvents {
		err = api.ErrLarge
	}
	if err != api.OK {
		return api.CareState{}, 0, err
	}
	i, err := firstWrong(l, func(_ []api.CareEvent, e api.CareEvent) api.Errno { return t.take(e) })
	if err != api.OK {
		return api.CareState{}, i, err
	}
	return t.CareState, 0, api.OK
}

// Possible returns all events that Apply accepts, of stops the one at a place.
func Possible(r api.CareDoors, s api.CareState, place int) ([]api.CareEvent, api.Errno) {
	t, err := trainOf(r, s)
	if err == api.OK {
		err = errorOfPlace(place)
	}
	if err != api.OK {
		return nil, err
	}
	var accepted []api.CareEvent
	for e := range t.events(place) {
		tried := t.copied()
		if tried.take(e) == api.OK {
			accepted = append(accepted, e)
		}
	}
	return accepted, api.OK
}

// begin returns a train that stands at a place, with everything shut, or the first error of its doors and the place.
func begin(r api.CareDoors, place int) (train, api.Errno) {
	if err := firstOf(CheckDoors(r), errorOfPlace(place)); err != api.OK {
		return train{}, err
	}
	return train{api.CareState{Place: place, Gates: make([]bool, r.Doors), Doors: make([]bool, r.Doors)}, r}, api.OK
}

// trainOf returns a train in a state, or the first error of its doors and the state.
func trainOf(r api.CareDoors, s api.CareState) (train, api.Errno) {
	told := train{s, r}
	if err := firstOf(CheckDoors(r), told.errorOfState()); err != api.OK {
		return train{}, err
	}
	return told.copied(), api.OK
}

// errorOfState returns what is wrong with the state of a train whose doors are right.
func (t train) errorOfState() api.Errno {
	switch {
	case errorOfPlace(t.Place) != api.OK:
		return errorOfPlace(t.Place)
	case len(t.Gates) != t.rules.Doors, len(t.Doors) != t.rules.Doors:
		return api.ErrShape
	case t.Moving && t.isOpen():
		return api.ErrOpen
	case slices.Contains(t.Gates, true) && !t.isInPlace():
		return api.ErrOrder
	case !t.Alarm && t.isUnguarded():
		return api.ErrBusy
	}
	return api.OK
}

// copied returns a train that shares no memory with this one.
func (t train) copied() train {
	t.Gates = slices.Clone(t.Gates)
	t.Doors = slices.Clone(t.Doors)
	return t
}

func (t train) isInPlace() bool {
	return sizeOf(t.Place-t.rules.Target) <= t.rules.Slack
}

// isOpen tells whether any gate or door is open.
func (t train) isOpen() bool {
	return slices.Contains(t.Gates, true) || slices.Contains(t.Doors, true)
}

// isUnguarded tells whether a door is open whose gate is not.
func (t train) isUnguarded() bool {
	for i, isOpen := range t.Doors {
		if isOpen && !t.Gates[i] {
			return true
		}
	}
	return false
}

// events yields all events that may be possible, ascending, of stops the one at a place.
func (t train) events(place int) iter.Seq[api.CareEvent] {
	return func(yield func(api.CareEvent) bool) {
		for number, k := range kinds() {
			for _, e := range k.events(number, place, t.rules.Doors) {
				if !yield(e) {
					return
				}
			}
		}
	}
}
