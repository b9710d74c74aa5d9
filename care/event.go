package care

import "guideway/api"

// use is what events of a kind use.
type use int

const (
	usesNothing use = iota
	usesPlace
	usesDoor
)

// kind is a kind of events: its word, what its events use, and the method by which a train takes such an event, or tells why
// it is not accepted, and stays as it is.
type kind struct {
	word string
	uses use
	take func(*train, api.CareEvent) api.Errno
}

// kinds returns all kinds by their numbers.
func kinds() [api.CareKinds]kind {
	return [...]kind{
		api.CareGo:    {"go", usesNothing, (*train).start},
		api.CareStop:  {"stop", usesPlace, (*train).stop},
		api.CareGate:  {"gate", usesDoor, (*train).openGate},
		api.CareBar:   {"bar", usesDoor, (*train).shutGate},
		api.CareOpen:  {"open", usesDoor, (*train).openDoor},
		api.CareShut:  {"shut", usesDoor, (*train).shutDoor},
		api.CareAlarm: {"alarm", usesNothing, (*train).alarm},
		api.CareCalm:  {"calm", usesNothing, (*train).calm},
	}
}

func isKind(number int) bool {
	return within(number, 0, api.CareKinds-1)
}

// errorOf returns what is wrong with an event of a kind, whatever the train does, which has so many doors.
func (k kind) errorOf(e api.CareEvent, doors int) api.Errno {
	if k.uses != usesPlace && e.Place != 0 || k.uses != usesDoor && e.Door != 0 {
		return api.ErrForm
	}
	return firstOf(errorOfPlace(e.Place), errorOfNumber(e.Door, doors))
}

// events returns the events of a kind, ascending: one of each of so many doors, or one at a place.
func (k kind) events(number, place, doors int) []api.CareEvent {
	switch k.uses {
	case usesPlace:
		return []api.CareEvent{{Kind: number, Place: place}}
	case usesNothing:
		return []api.CareEvent{{Kind: number}}
	}
	list := make([]api.CareEvent, doors)
	for door := range list {
		list[door] = api.CareEvent{Kind: number, Door: door}
	}
	return list
}

// take does an event, or tells why it is not accepted, and leaves the train as it is.
func (t *train) take(e api.CareEvent) api.Errno {
	if !isKind(e.Kind) {
		return api.ErrKind
	}
	k := kinds()[e.Kind]
	if err := k.errorOf(e, t.rules.Doors); err != api.OK {
		return err
	}
	return k.take(t, e)
}

func (t *train) start(api.CareEvent) api.Errno {
	switch {
	case t.Moving:
		return api.ErrState
	case t.isOpen():
		return api.ErrOpen
	}
	t.Moving = true
	return api.OK
}

func (t *train) stop(e api.CareEvent) api.Errno {
	if !t.Moving {
		return api.ErrState
	}
	t.Moving, t.Place = false, e.Place
	return api.OK
}

func (t *train) openGate(e api.CareEvent) api.Errno {
	switch {
	case t.Moving:
		return api.ErrState
	case !t.isInPlace():
		return api.ErrOrder
	case t.Gates[e.Door]:
		return api.ErrDouble
	}
	t.Gates[e.Door] = true
	return api.OK
}

func (t *train) shutGate(e api.CareEvent) api.Errno {
	switch {
	case !t.Gates[e.Door]:
		return api.ErrState
	case t.Doors[e.Door] && !t.Alarm:
		return api.ErrOpen
	}
	t.Gates[e.Door] = false
	return api.OK
}

func (t *train) openDoor(e api.CareEvent) api.Errno {
	switch {
	case t.Moving:
		return api.ErrState
	case !t.Alarm && !t.isInPlace():
		return api.ErrOrder
	case !t.Alarm && !t.Gates[e.Door]:
		return api.ErrBusy
	case t.Doors[e.Door]:
		return api.ErrDouble
	}
	t.Doors[e.Door] = true
	return api.OK
}

func (t *train) shutDoor(e api.CareEvent) api.Errno {
	if !t.Doors[e.Door] {
		return api.ErrState
	}
	t.Doors[e.Door] = false
	return api.OK
}

func (t *train) alarm(api.CareEvent) api.Errno {
	if t.Alarm {
		return api.ErrDouble
	}
	t.Alarm = true
	return api.OK
}

func (t *train) calm(api.CareEvent) api.Errno {
	switch {
	case !t.Alarm:
		return api.ErrNone
	case t.isUnguarded():
		return api.ErrOpen
	}
	t.Alarm = false
	return api.OK
}
