package lock_test

import (
	"slices"

	"guideway/api"
	"guideway/lock"
)

// What the chapter says, without the package: what a state is, what events do, and which states there are.

func begin(p api.LockPlant) api.LockState {
	var x api.LockState
	for range p.Switches {
		x.Switches = append(x.Switches, 0)
	}
	for range p.Trains {
		x.Trains = append(x.Trains, api.LockTrain{})
	}
	return x
}

// holders are the trains that have a section in their chains, each as often as it has it.
func holders(x api.LockState, section int) []int {
	var list []int
	for i, t := range x.Trains {
		for _, taken := range t.Chain {
			if taken == section {
				list = append(list, i)
			}
		}
	}
	return list
}

// lies is whether all switches in a section lie as a route needs.
func lies(p api.LockPlant, x api.LockState, r api.LockRoute, section int) bool {
	for i, s := range p.Switches {
		if s.Section == section && x.Switches[i] != r.Needs[i] {
			return false
		}
	}
	return true
}

func leads(p api.LockPlant, x api.LockState, from, to int) bool {
	for _, r := range p.Routes {
		for i := range len(r.Sections) - 1 {
			if r.Sections[i] == from && r.Sections[i+1] == to && lies(p, x, r, from) && lies(p, x, r, to) {
				return true
			}
		}
	}
	return false
}

// errorOfState is the error of a state of a right plant.
func errorOfState(p api.LockPlant, x api.LockState) api.Errno {
	if len(x.Switches) != len(p.Switches) || len(x.Trains) != len(p.Trains) {
		return api.ErrShape
	}
	for _, position := range x.Switches {
		if position != 0 && position != 1 {
			return api.ErrRange
		}
	}
	if x.Counter < 0 || x.Counter > 250 {
		return api.ErrRange
	}
	seen := map[int]bool{}
	for _, t := range x.Trains {
		if len(t.Chain) == 0 && t.Under != 0 || len(t.Chain) > 0 && (t.Under < 1 || t.Under > len(t.Chain)) {
			return api.ErrForm
		}
		for i, section := range t.Chain {
			switch {
			case section < 0 || section >= len(p.Sections):
				return api.ErrMissing
			case seen[section]:
				return api.ErrBusy
			case i > 0 && !leads(p, x, t.Chain[i-1], section):
				return api.ErrOpen
			}
			seen[section] = true
		}
	}
	return api.OK
}

// rightEvents are all events of a plant, ascending.
func rightEvents(p api.LockPlant) []api.LockEvent {
	var list []api.LockEvent
	add := func(kind, as, bs int) {
		for a := range as {
			for b := range bs {
				list = append(list, api.LockEvent{Kind: kind, A: a, B: b})
			}
		}
	}
	add(0, len(p.Trains), len(p.Sections))
	add(1, len(p.Trains), len(p.Routes))
	add(2, len(p.Switches), 2)
	for kind := 3; kind <= 6; kind++ {
		add(kind, len(p.Trains), 1)
	}
	return list
}

// behind is the state behind a right event, or why it is refused.
func behind(p api.LockPlant, x api.LockState, e api.LockEvent) (api.LockState, api.Errno) {
	y := copiedState(x)
	if e.Kind == 2 {
		y.Switches[e.A] = e.B
		if len(holders(x, p.Switches[e.A].Section)) > 0 {
			return api.LockState{}, api.ErrBusy
		}
		return y, api.OK
	}
	t := &y.Trains[e.A]
	long, err := len(t.Chain), api.OK
	switch {
	case (e.Kind == 0) != (long == 0):
		err = api.ErrState
	case e.Kind == 0:
		t.Chain, t.Under = []int{e.B}, 1
		if len(holders(x, e.B)) > 0 {
			err = api.ErrBusy
		}
	case e.Kind == 1:
		err = refusalOf(p, x, t.Chain[long-1], p.Routes[e.B])
		t.Chain = slices.Concat(t.Chain, p.Routes[e.B].Sections[1:])
	case e.Kind == 6 && long > 1:
		err = api.ErrBusy
	case e.Kind == 6:
		*t = api.LockTrain{}
	case e.Kind != 4 && t.Under == long || e.Kind == 4 && t.Under == 1:
		err = api.ErrNone
	case e.Kind == 3:
		t.Under++
	case e.Kind == 4:
		t.Chain, t.Under = t.Chain[1:], t.Under-1
	case e.Kind == 5:
		t.Chain = t.Chain[:long-1]
	}
	if err != api.OK {
		return api.LockState{}, err
	}
	return y, api.OK
}

// refusalOf is why a train whose chain has this end does not get a route.
func refusalOf(p api.LockPlant, x api.LockState, end int, r api.LockRoute) api.Errno {
	if r.Sections[0] != end {
		return api.ErrOpen
	}
	for _, section := range r.Sections[1:] {
		if len(holders(x, section)) > 0 {
			return api.ErrBusy
		}
	}
	for _, section := range r.Sections {
		if !lies(p, x, r, section) {
			return api.ErrClash
		}
	}
	return api.OK
}

// nearest are the states that can be reached from one, by the fewest events first; at most so many.
func nearest(p api.LockPlant, x api.LockState, most int) []api.LockState {
	list := []api.LockState{x}
	known := map[string]bool{lock.FormatState(x): true}
	for i := 0; i < len(list); i++ {
		for _, e := range rightEvents(p) {
			y, err := behind(p, list[i], e)
			if len(list) == most {
				return list
			}
			if text := lock.FormatState(y); err == api.OK && !known[text] {
				known[text] = true
				list = append(list, y)
			}
		}
	}
	return list
}
