package locate

import "guideway/api"

// Near returns the numbers of all windows that are near what is seen.
func Near(t api.LocateTrack, seen []int) ([]int, api.Errno) {
	c, err := checkSeen(t, seen)
	if err != api.OK {
		return nil, err
	}
	return c.near(seen), api.OK
}

// Told returns the number of the only window that is near what is seen.
func Told(t api.LocateTrack, seen []int) (int, api.Errno) {
	near, err := Near(t, seen)
	if err != api.OK {
		return 0, err
	}
	return only(near)
}

// ToothAt returns the tooth that has a place.
func ToothAt(t api.LocateTrack, place int) (int, api.Errno) {
	c, err := check(t)
	if err != api.OK {
		return 0, err
	}
	if !within(place, c.First, c.First+c.teeth()*c.Tooth-1) {
		return 0, api.ErrMissing
	}
	return (place - c.First) / c.Tooth, api.OK
}

// PlacesOf returns the places of a tooth.
func PlacesOf(t api.LocateTrack, tooth int) (api.Range, api.Errno) {
	c, err := checkNumbered(t, tooth, checkedTrack.teeth)
	if err != api.OK {
		return api.Range{}, err
	}
	return c.places(tooth), api.OK
}

// Possible returns the runs of places that are possible for a reading.
func Possible(t api.LocateTrack, x api.LocateReading) ([]api.Range, api.Errno) {
	c, err := checkSeen(t, x.Seen)
	if err != api.OK {
		return nil, err
	}
	if !within(x.Count, 0, c.Modulus-1) {
		return nil, api.ErrRange
	}
	return c.possible(x), api.OK
}

// PlaceOf returns the only run of places that is possible for a reading.
func PlaceOf(t api.LocateTrack, x api.LocateReading) (api.Range, api.Errno) {
	possible, err := Possible(t, x)
	if err != api.OK {
		return api.Range{}, err
	}
	return only(possible)
}

// checkSeen checks a track and what is seen of it.
func checkSeen(t api.LocateTrack, seen []int) (checkedTrack, api.Errno) {
	c, err := check(t)
	if err != api.OK {
		return checkedTrack{}, err
	}
	if len(seen) != c.Window {
		return checkedTrack{}, api.ErrShape
	}
	for _, number := range seen {
		if !isSeen(number) {
			return checkedTrack{}, api.ErrKind
		}
	}
	return c, api.OK
}

// only returns the only one of a list.
func only[T any](list []T) (T, api.Errno) {
	var none T
	switch len(list) {
	case 0:
		return none, api.ErrNone
	case 1:
		return list[0], api.OK
	}
	return none, api.ErrUnknown
}

func (c checkedTrack) near(seen []int) []int {
	var near []int
	for i := range c.windows() {
		if w := c.window(i); differ(seen, w[:]) <= c.Errors {
			near = append(near, i)
		}
	}
	return near
}

func (c checkedTrack) possible(x api.LocateReading) []api.Range {
	var possible []api.Range
	for _, i := range c.near(x.Seen) {
		for k := range c.PerVane {
			if tooth := i*c.PerVane + k; c.fits(tooth, x.Count) {
				possible = goneOn(possible, c.places(tooth))
			}
		}
	}
	return possible
}

// fits tells whether a tooth's number and a count are not too far apart, in one direction or the other.
func (c checkedTrack) fits(tooth, count int) bool {
	apart := modulo(tooth-count, c.Modulus)
	return apart <= c.Slack || apart >= c.Modulus-c.Slack
}

func (c checkedTrack) places(tooth int) api.Range {
	begin := c.First + tooth*c.Tooth
	return api.Range{Lo: begin, Hi: begin + c.Tooth - 1}
}
