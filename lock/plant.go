package lock

import (
	"slices"

	"guideway/api"
)

// CheckPlant returns the first error of a plant, and the element that has it.
func CheckPlant(p api.LockPlant) (api.LockMark, api.Errno) {
	if err := errorOfSizes(p); err != api.OK {
		return api.LockMark{}, err
	}
	if i, err := firstWrong(p.Sections, errorOfWord); err != api.OK {
		return api.LockMark{List: api.LockSections, Number: i}, err
	}
	if i, err := firstWrong(p.Trains, errorOfWord); err != api.OK {
		return api.LockMark{List: api.LockTrains, Number: i}, err
	}
	errorOfOneSwitch := func(earlier []api.LockSwitch, s api.LockSwitch) api.Errno { return errorOfSwitch(p, earlier, s) }
	if i, err := firstWrong(p.Switches, errorOfOneSwitch); err != api.OK {
		return api.LockMark{List: api.LockSwitches, Number: i}, err
	}
	errorOfOneRoute := func(earlier []api.LockRoute, r api.LockRoute) api.Errno { return errorOfRoute(p, earlier, r) }
	if i, err := firstWrong(p.Routes, errorOfOneRoute); err != api.OK {
		return api.LockMark{List: api.LockRoutes, Number: i}, err
	}
	return api.LockMark{}, api.OK
}

func errorOfSizes(p api.LockPlant) api.Errno {
	switch {
	case len(p.Sections) == 0, len(p.Trains) == 0:
		return api.ErrShape
	case len(p.Sections) > api.MaxLockSections,
		len(p.Trains) > api.MaxLockTrains,
		len(p.Switches) > api.MaxLockSwitches,
		len(p.Routes) > api.MaxLockRoutes:
		return api.ErrLarge
	}
	return api.OK
}

// errorOfWord returns the error of a section, or a train: it is its name.
func errorOfWord(earlier []string, name string) api.Errno {
	return errorOfName(earlier, name, func(other string) string { return other })
}

// errorOfName returns the error of a name behind elements that have names.
func errorOfName[T any](earlier []T, name string, nameOf func(T) string) api.Errno {
	switch {
	case !isName(name):
		return api.ErrName
	case slices.ContainsFunc(earlier, func(other T) bool { return nameOf(other) == name }):
		return api.ErrExists
	}
	return api.OK
}

func errorOfSwitch(p api.LockPlant, earlier []api.LockSwitch, s api.LockSwitch) api.Errno {
	if err := errorOfName(earlier, s.Name, func(other api.LockSwitch) string { return other.Name }); err != api.OK {
		return err
	}
	err := errorOfNumber(p.Sections, s.Section)
	if err == api.OK && slices.ContainsFunc(earlier, func(other api.LockSwitch) bool { return other.Section == s.Section }) {
		err = api.ErrDouble
	}
	return err
}

// errorOfRoute returns the error of a route of a plant whose sections and switches are right.
func errorOfRoute(p api.LockPlant, earlier []api.LockRoute, r api.LockRoute) api.Errno {
	if err := errorOfName(earlier, r.Name, func(other api.LockRoute) string { return other.Name }); err != api.OK {
		return err
	}
	switch {
	case len(r.Sections) < 2:
		return api.ErrShape
	case len(r.Sections) > len(p.Sections):
		return api.ErrLarge
	}
	_, err := firstWrong(r.Sections, func(earlier []int, section int) api.Errno {
		err := errorOfNumber(p.Sections, section)
		if err == api.OK && slices.Contains(earlier, section) {
			err = api.ErrDouble
		}
		return err
	})
	if err != api.OK {
		return err
	}
	return errorOfNeeds(p, r)
}

func errorOfNeeds(p api.LockPlant, r api.LockRoute) api.Errno {
	if len(r.Needs) != len(p.Switches) {
		return api.ErrShape
	}
	for i, need := range r.Needs {
		isNeeded := slices.Contains(r.Sections, p.Switches[i].Section)
		if isNeeded && !isPosition(need) || !isNeeded && need != api.LockFree {
			return api.ErrRange
		}
	}
	return api.OK
}

func isPosition(number int) bool {
	return within(number, 0, positions-1)
}

// Conflicts returns all pairs of routes that conflict.
func Conflicts(p api.LockPlant) ([][2]int, api.Errno) {
	c, err := check(p)
	if err != api.OK {
		return nil, err
	}
	var pairs [][2]int
	for i, r := range c.Routes {
		for j := i + 1; j < len(c.Routes); j++ {
			if conflict(r, c.Routes[j]) {
				pairs = append(pairs, [2]int{i, j})
			}
		}
	}
	return pairs, api.OK
}

// conflict returns whether two routes have a section in common.
func conflict(a, b api.LockRoute) bool {
	return slices.ContainsFunc(a.Sections, func(section int) bool { return slices.Contains(b.Sections, section) })
}

// RoutesFrom returns all routes whose first section is this one.
func RoutesFrom(p api.LockPlant, section int) ([]int, api.Errno) {
	c, err := check(p, errorOfNumber(p.Sections, section))
	if err != api.OK {
		return nil, err
	}
	return numbersOf(c.Routes, func(r api.LockRoute) bool { return r.Sections[0] == section }), api.OK
}
