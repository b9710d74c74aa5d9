package locate

import (
	"slices"

	"guideway/api"
)

// second is the milliseconds of a second.
const second = 1000

// Fused returns all longest runs of places that are fused from ranges of which some may be wrong.
func Fused(l []api.Range, wrong int) ([]api.Range, api.Errno) {
	switch {
	case len(l) == 0:
		return nil, api.ErrShape
	case len(l) > api.MaxLocateRanges:
		return nil, api.ErrLarge
	}
	for _, x := range l {
		if err := checkPlaces(x); err != api.OK {
			return nil, err
		}
	}
	if !within(wrong, 0, len(l)-1) {
		return nil, api.ErrRange
	}
	var fused []api.Range
	begins := changes(l)
	for i := 1; i < len(begins); i++ {
		if having(l, begins[i-1]) >= len(l)-wrong {
			fused = goneOn(fused, api.Range{Lo: begins[i-1], Hi: begins[i] - 1})
		}
	}
	return fused, api.OK
}

// changes returns the places at which ranges begin, or directly behind which they ended.
func changes(l []api.Range) []int {
	var places []int
	for _, x := range l {
		places = append(places, x.Lo, x.Hi+1)
	}
	slices.Sort(places)
	return slices.Compact(places)
}

// having returns how many ranges have a place.
func having(l []api.Range, place int) int {
	count := 0
	for _, x := range l {
		if within(place, x.Lo, x.Hi) {
			count++
		}
	}
	return count
}

// goneOn returns runs of places with a range behind them; a range that follows directly belongs to the last run.
func goneOn(runs []api.Range, next api.Range) []api.Range {
	last := len(runs) - 1
	if last < 0 || runs[last].Hi+1 < next.Lo {
		return append(runs, next)
	}
	runs[last].Hi = next.Hi
	return runs
}

// Moved returns a range that was moved by speeds in a time.
func Moved(x, speed api.Range, time int) (api.Range, api.Errno) {
	if err := checkPlaces(x); err != api.OK {
		return api.Range{}, err
	}
	if err := checkSpeeds(speed); err != api.OK {
		return api.Range{}, err
	}
	if err := checkTime(time); err != api.OK {
		return api.Range{}, err
	}
	return moved(x, speed, time), api.OK
}

func moved(x, speed api.Range, time int) api.Range {
	return api.Range{Lo: x.Lo + floor(speed.Lo*time, second), Hi: x.Hi + ceiling(speed.Hi*time, second)}
}

// Follow returns where a train is behind the last of some fixes; beside ErrClash, the fix that contradicts those ahead.
func Follow(speed api.Range, l []api.LocateFix) (api.Range, int, api.Errno) {
	if err := checkSpeeds(speed); err != api.OK {
		return api.Range{}, 0, err
	}
	if err := checkFixes(l); err != api.OK {
		return api.Range{}, 0, err
	}
	here := l[0].Place
	for i := 1; i < len(l); i++ {
		here = moved(here, speed, l[i].At-l[i-1].At)
		here = api.Range{Lo: max(here.Lo, l[i].Place.Lo), Hi: min(here.Hi, l[i].Place.Hi)}
		if here.Lo > here.Hi {
			return api.Range{}, i, api.ErrClash
		}
	}
	return here, 0, api.OK
}

func checkFixes(l []api.LocateFix) api.Errno {
	switch {
	case len(l) == 0:
		return api.ErrShape
	case len(l) > api.MaxLocateFixes:
		return api.ErrLarge
	}
	for i, fix := range l {
		if err := checkTime(fix.At); err != api.OK {
			return err
		}
		if err := checkPlaces(fix.Place); err != api.OK {
			return err
		}
		if i > 0 && fix.At < l[i-1].At {
			return api.ErrOrder
		}
	}
	return api.OK
}

func checkPlaces(x api.Range) api.Errno {
	return checkRange(x, 0, api.MaxPlace)
}

func checkSpeeds(speed api.Range) api.Errno {
	return checkRange(speed, -api.MaxSpeed, api.MaxSpeed)
}

// checkRange returns the error of a range whose ends are from least to most.
func checkRange(x api.Range, least, most int) api.Errno {
	switch {
	case !within(x.Lo, least, most) || !within(x.Hi, least, most):
		return api.ErrRange
	case x.Lo > x.Hi:
		return api.ErrOrder
	}
	return api.OK
}

func checkTime(time int) api.Errno {
	if !within(time, 0, api.MaxLocateTime) {
		return api.ErrRange
	}
	return api.OK
}
