package lock

import (
	"slices"

	"guideway/api"
)

// mostCounted is the greatest counter; behind it comes 0.
const mostCounted = api.LockPrime - 1

// Begin returns the state at the beginning.
func Begin(p api.LockPlant) (api.LockState, api.Errno) {
	c, err := check(p)
	if err != api.OK {
		return api.LockState{}, err
	}
	return c.begin(), api.OK
}

// CheckState returns the first error of a plant and a state.
func CheckState(p api.LockPlant, x api.LockState) api.Errno {
	_, err := checkBoth(p, x)
	return err
}

// HolderOf returns the train whose chain has a section.
func HolderOf(p api.LockPlant, x api.LockState, section int) (int, api.Errno) {
	_, err := checkBoth(p, x, errorOfNumber(p.Sections, section))
	if err != api.OK {
		return 0, err
	}
	holder := slices.IndexFunc(x.Trains, func(t api.LockTrain) bool { return slices.Contains(t.Chain, section) })
	if holder < 0 {
		return 0, api.ErrNone
	}
	return holder, api.OK
}

// Locked returns all switches that are locked.
func Locked(p api.LockPlant, x api.LockState) ([]int, api.Errno) {
	c, err := checkBoth(p, x)
	if err != api.OK {
		return nil, err
	}
	return numbersOf(c.Switches, func(s api.LockSwitch) bool { return isTaken(x.Trains, s.Section) }), api.OK
}

// EndOf returns the last section of a train's chain.
func EndOf(p api.LockPlant, x api.LockState, train int) (int, api.Errno) {
	_, err := checkBoth(p, x, errorOfNumber(p.Trains, train))
	if err != api.OK {
		return 0, err
	}
	chain := x.Trains[train].Chain
	if len(chain) == 0 {
		return 0, api.ErrState
	}
	return chain[len(chain)-1], api.OK
}

func (c checkedPlant) begin() api.LockState {
	return api.LockState{Switches: make([]int, len(c.Switches)), Trains: make([]api.LockTrain, len(c.Trains))}
}

func (c checkedPlant) errorOfState(x api.LockState) api.Errno {
	switch {
	case len(x.Switches) != len(c.Switches), len(x.Trains) != len(c.Trains):
		return api.ErrShape
	case slices.ContainsFunc(x.Switches, func(position int) bool { return !isPosition(position) }),
		!within(x.Counter, 0, mostCounted):
		return api.ErrRange
	}
	_, err := firstWrong(x.Trains, func(earlier []api.LockTrain, t api.LockTrain) api.Errno {
		return c.errorOfTrain(x.Switches, earlier, t)
	})
	return err
}

// errorOfTrain returns the error of a train behind earlier ones that are right.
func (c checkedPlant) errorOfTrain(lie []int, earlier []api.LockTrain, t api.LockTrain) api.Errno {
	if !within(t.Under, min(1, len(t.Chain)), len(t.Chain)) {
		return api.ErrForm
	}
	_, err := firstWrong(t.Chain, func(chain []int, section int) api.Errno {
		return c.errorOfSection(lie, earlier, chain, section)
	})
	return err
}

// errorOfSection returns the error of a section of a chain behind the chain so far.
func (c checkedPlant) errorOfSection(lie []int, earlier []api.LockTrain, chain []int, section int) api.Errno {
	if err := errorOfNumber(c.Sections, section); err != api.OK {
		return err
	}
	switch {
	case slices.Contains(chain, section), isTaken(earlier, section):
		return api.ErrBusy
	case len(chain) > 0 && !c.leads(lie, chain[len(chain)-1], section):
		return api.ErrOpen
	}
	return api.OK
}

// leads returns whether one section leads to another one, as the switches lie.
func (c checkedPlant) leads(lie []int, from, to int) bool {
	return slices.ContainsFunc(c.Routes, func(r api.LockRoute) bool {
		i := slices.Index(r.Sections, to)
		return i > 0 && r.Sections[i-1] == from && c.fits(lie, r, r.Sections[i-1:i+1])
	})
}

// fits returns whether all switches in some sections of a route lie as it needs.
func (c checkedPlant) fits(lie []int, r api.LockRoute, sections []int) bool {
	for i, s := range c.Switches {
		if lie[i] != r.Needs[i] && slices.Contains(sections, s.Section) {
			return false
		}
	}
	return true
}

// isTaken returns whether a section is in the chain of one of some trains.
func isTaken(trains []api.LockTrain, section int) bool {
	return slices.ContainsFunc(trains, func(t api.LockTrain) bool { return slices.Contains(t.Chain, section) })
}
