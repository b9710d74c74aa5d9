package feed

import "guideway/api"

// Exceeded returns the names of the trains of the least set of departures that exceeds a limit.
func Exceeded(n api.FeedNet, l []api.FeedDeparture) ([]string, api.Errno) {
	least, err := LeastOver(n, l)
	if err != api.OK {
		return nil, err
	}
	names := make([]string, len(least))
	for i, number := range least {
		names[i] = l[number].Train
	}
	return names, api.OK
}

// LeastOver returns the least set of departures with which alone some load is exceeded.
func LeastOver(n api.FeedNet, l []api.FeedDeparture) ([]int, api.Errno) {
	c, err := check(n, l)
	if err != api.OK {
		return nil, err
	}
	for _, set := range setsOf(len(l)) {
		if c.only(set).isOver() {
			return set, api.OK
		}
	}
	return nil, api.ErrNone
}

// setsOf returns all sets of numbers below one, the least one first.
func setsOf(count int) [][]int {
	sets := [][]int{nil}
	// Each set is gone on with by greater numbers alone: so sets come up by their sizes, and those of one size in order.
	for i := 0; i < len(sets); i++ {
		set, next := sets[i], 0
		if len(set) > 0 {
			next = set[len(set)-1] + 1
		}
		for ; next < count; next++ {
			sets = append(sets, append(set[:len(set):len(set)], next))
		}
	}
	return sets
}

// only returns the net in which a set of the runs is alone.
func (c checkedNet) only(set []int) checkedNet {
	runs := make([]run, len(set))
	for i, number := range set {
		runs[i] = c.runs[number]
	}
	return c.with(runs)
}
