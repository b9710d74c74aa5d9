package feed

import (
	"slices"

	"guideway/api"
)

// PowerAt returns the net power of a section in a tick.
func PowerAt(n api.FeedNet, l []api.FeedDeparture, section, tick int) (int, api.Errno) {
	c, err := check(n, l, errorOfNumber(n.Sections, section), errorOfTick(tick))
	if err != api.OK {
		return 0, err
	}
	return c.powersIn(tick)[section], api.OK
}

// LoadsAt returns the loads of all substations in a tick.
func LoadsAt(n api.FeedNet, l []api.FeedDeparture, tick int) ([]int, api.Errno) {
	c, err := check(n, l, errorOfTick(tick))
	if err != api.OK {
		return nil, err
	}
	return c.loadsIn(tick), api.OK
}

// PeakOf returns the first tick with the greatest load of a substation.
func PeakOf(n api.FeedNet, l []api.FeedDeparture, station int) (api.FeedPeak, api.Errno) {
	c, err := check(n, l, errorOfNumber(n.Stations, station))
	if err != api.OK {
		return api.FeedPeak{}, err
	}
	peak := api.FeedPeak{Station: station, Load: c.loadsIn(0)[station]}
	for tick := 1; tick <= lastTick; tick++ {
		if load := c.loadsIn(tick)[station]; load > peak.Load {
			peak.Tick, peak.Load = tick, load
		}
	}
	return peak, api.OK
}

// FirstOver returns the first load that is exceeded.
func FirstOver(n api.FeedNet, l []api.FeedDeparture) (api.FeedPeak, api.Errno) {
	c, err := check(n, l)
	if err != api.OK {
		return api.FeedPeak{}, err
	}
	return c.firstOver()
}

// firstOver returns the first tick in which a load is exceeded, and the first such load in it, or ErrNone.
func (c checkedNet) firstOver() (api.FeedPeak, api.Errno) {
	for _, tick := range c.ticks() {
		for station, load := range c.loadsIn(tick) {
			if load > api.FeedParts*c.Stations[station].Limit {
				return api.FeedPeak{Tick: tick, Station: station, Load: load}, api.OK
			}
		}
	}
	return api.FeedPeak{}, api.ErrNone
}

// isOver tells whether a load is exceeded in any tick.
func (c checkedNet) isOver() bool {
	_, err := c.firstOver()
	return err == api.OK
}

// ticks returns all ticks in which a train is in a section; in other ones all loads are 0, which exceeds no limit.
func (c checkedNet) ticks() []int {
	var ticks []int
	for _, r := range c.runs {
		for k := range r.Steps {
			ticks = append(ticks, r.at+k)
		}
	}
	slices.Sort(ticks)
	return slices.Compact(ticks)
}

// powersIn returns the net powers of all sections in a tick.
func (c checkedNet) powersIn(tick int) []int {
	powers := make([]int, len(c.Sections))
	for _, r := range c.runs {
		if step, ok := r.stepIn(tick); ok {
			powers[step.Section] += step.Power
		}
	}
	return powers
}

// loadsIn returns the loads of all substations in a tick.
func (c checkedNet) loadsIn(tick int) []int {
	loads := make([]int, len(c.Stations))
	for i, power := range c.powersIn(tick) {
		drawn := drawnFor(c.Sections[i], power)
		for station := range loads {
			loads[station] += drawn * partOf(c.Sections[i], station)
		}
	}
	return loads
}

// drawnFor returns what is drawn for a net power of a section, in thousandths of a kilowatt.
func drawnFor(s api.FeedSection, power int) int {
	if power < 0 {
		return power * (api.FeedWhole - s.Loss)
	}
	return power * (api.FeedWhole + s.Loss)
}

// partOf returns how many thousandths of a section a substation feeds.
func partOf(s api.FeedSection, station int) int {
	switch station {
	case s.Left:
		return s.Share
	case s.Right:
		return api.FeedWhole - s.Share
	}
	return 0
}
