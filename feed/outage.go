package feed

import (
	"slices"

	"guideway/api"
)

// Without returns the net in which some substations feed nothing.
func Without(n api.FeedNet, out []int) (api.FeedNet, api.Errno) {
	c, err := check(n, nil, errorOfOut(n, out))
	if err != api.OK {
		return api.FeedNet{}, err
	}
	rest := c.without(out)
	if rest.hasOpen() {
		return api.FeedNet{}, api.ErrOpen
	}
	return rest.FeedNet, api.OK
}

// FirstWeak returns the first substation without which a load is exceeded, or a section has no substation.
func FirstWeak(n api.FeedNet, l []api.FeedDeparture) (int, api.Errno) {
	c, err := check(n, l)
	if err != api.OK {
		return 0, err
	}
	for station := range c.Stations {
		if rest := c.without([]int{station}); rest.hasOpen() || rest.isOver() {
			return station, api.OK
		}
	}
	return 0, api.ErrNone
}

// errorOfOut returns what is wrong with substations that feed nothing.
func errorOfOut(n api.FeedNet, out []int) api.Errno {
	_, err := firstWrong(out, func(earlier []int, station int) api.Errno {
		err := errorOfNumber(n.Stations, station)
		if err == api.OK && len(earlier) > 0 && station <= earlier[len(earlier)-1] {
			err = api.ErrOrder
		}
		return err
	})
	return err
}

// without returns a new net in which some substations feed nothing. A section that they alone feed is open in it.
func (c checkedNet) without(out []int) checkedNet {
	c.FeedNet = copied(c.FeedNet)
	for i := range c.Sections {
		s := &c.Sections[i]
		if slices.Contains(out, s.Left) {
			s.Left, s.Share = api.FeedNone, 0
		}
		if slices.Contains(out, s.Right) {
			s.Right, s.Share = api.FeedNone, api.FeedWhole
		}
	}
	return c
}

// hasOpen tells whether a section has no substation.
func (c checkedNet) hasOpen() bool {
	return slices.ContainsFunc(c.Sections, isOpen)
}

// copied returns a net that shares no memory with another one.
func copied(n api.FeedNet) api.FeedNet {
	n.Stations, n.Sections, n.Trains = slices.Clone(n.Stations), slices.Clone(n.Sections), slices.Clone(n.Trains)
	for i, t := range n.Trains {
		n.Trains[i].Steps = slices.Clone(t.Steps)
	}
	return n
}
