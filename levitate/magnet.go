package levitate

import "guideway/api"

// ForceOf returns the force of a magnet for ranges of its current and its gap.
func ForceOf(factor int, current, gap api.Range) (api.Range, api.Errno) {
	if !within(factor, 1, api.MaxLevitateFactor) || !hasEnds(current, 0, api.MaxLevitateCurrent) || !isGap(gap) {
		return api.Range{}, api.ErrRange
	}
	if current.Lo > current.Hi || gap.Lo > gap.Hi {
		return api.Range{}, api.ErrOrder
	}
	return api.Range{
		Lo: floor(factor*current.Lo*current.Lo, gap.Hi*gap.Hi),
		Hi: ceiling(factor*current.Hi*current.Hi, gap.Lo*gap.Lo),
	}, api.OK
}

// CurrentFor returns the least current whose force carries a load at the greatest gap.
func CurrentFor(factor, load int, gap api.Range) (int, api.Errno) {
	if !within(factor, 1, api.MaxLevitateFactor) || !within(load, 0, api.MaxLevitateLoad) || !isGap(gap) {
		return 0, api.ErrRange
	}
	if gap.Lo > gap.Hi {
		return 0, api.ErrOrder
	}
	current, some := least(api.MaxLevitateCurrent, func(current int) bool { return lifts(factor, current, gap.Hi, load) })
	if !some {
		return 0, api.ErrNone
	}
	return current, api.OK
}

// lifts tells whether the force of a factor is at least a load.
func lifts(factor, current, gap, load int) bool {
	return factor*current*current >= load*gap*gap
}

func isGap(gap api.Range) bool {
	return hasEnds(gap, 1, api.MaxLevitateGap)
}

// hasEnds tells whether both ends of a range are from lo to hi.
func hasEnds(r api.Range, lo, hi int) bool {
	return within(r.Lo, lo, hi) && within(r.Hi, lo, hi)
}
