package feed

import (
	"slices"

	"guideway/api"
)

// maxLatest is how late trains may depart of which windows are looked for.
const maxLatest = 4 * api.MaxFeedSteps

// CheckWindow returns what a window must feed, if this proves that no plan keeps the limits.
func CheckWindow(n api.FeedNet, w api.FeedWindow) (int, api.Errno) {
	c, err := check(n, nil, errorOfNumber(n.Stations, w.Station), errorOfTicks(w.Ticks))
	if err != api.OK {
		return 0, err
	}
	if !c.proves(w) {
		return 0, api.ErrProof
	}
	return c.mustFeed(w), api.OK
}

// FirstWindow returns the first window that proves that no plan keeps the limits.
func FirstWindow(n api.FeedNet) (api.FeedWindow, api.Errno) {
	c, err := check(n, nil, errorOfChoice(n), errorOfLatest(n))
	if err != api.OK {
		return api.FeedWindow{}, err
	}
	last := api.MaxFeedSteps
	for _, t := range c.Trains {
		last = max(last, t.Latest+api.MaxFeedSteps)
	}
	for station := range c.Stations {
		for lo := range last + 1 {
			for hi := lo; hi <= last; hi++ {
				if w := (api.FeedWindow{Station: station, Ticks: api.Range{Lo: lo, Hi: hi}}); c.proves(w) {
					return w, api.OK
				}
			}
		}
	}
	return api.FeedWindow{}, api.ErrNone
}

// errorOfLatest returns what is wrong with a net if its windows are looked for.
func errorOfLatest(n api.FeedNet) api.Errno {
	if slices.ContainsFunc(n.Trains, func(t api.FeedTrain) bool { return t.Latest > maxLatest }) {
		return api.ErrLarge
	}
	return api.OK
}

// proves tells whether a window must feed more than it may.
func (c checkedNet) proves(w api.FeedWindow) bool {
	count := w.Ticks.Hi - w.Ticks.Lo + 1
	return c.mustFeed(w) > api.FeedParts*c.Stations[w.Station].Limit*count
}

// mustFeed returns what a window must feed, however trains depart.
func (c checkedNet) mustFeed(w api.FeedWindow) int {
	sum := 0
	for _, t := range c.Trains {
		runs := runsOf(t)
		least := c.fedIn(w, runs[0])
		for _, r := range runs[1:] {
			least = min(least, c.fedIn(w, r))
		}
		sum += least
	}
	return sum
}

// fedIn returns what a window feeds for a run at the least. What the run gives is taken to reach other trains: then it
// lessens what they draw, losses included.
func (c checkedNet) fedIn(w api.FeedWindow, r run) int {
	sum := 0
	for k, step := range r.Steps {
		if s := c.Sections[step.Section]; within(r.at+k, w.Ticks.Lo, w.Ticks.Hi) {
			sum += step.Power * (api.FeedWhole + s.Loss) * partOf(s, w.Station)
		}
	}
	return sum
}
