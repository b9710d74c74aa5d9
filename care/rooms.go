package care

import (
	"sort"

	"guideway/api"
)

// checkedRooms embeds rooms that are right.
type checkedRooms struct {
	api.CareRooms
}

// CheckRooms returns the first error of rooms, and the number of the room or the way.
func CheckRooms(x api.CareRooms) (int, api.Errno) {
	switch {
	case len(x.People) == 0:
		return 0, api.ErrShape
	case len(x.People) > api.MaxCareRooms, len(x.Ways) > api.MaxCareWays:
		return 0, api.ErrLarge
	}
	number, err := firstWrong(x.People, func(_ []int, people int) api.Errno { return errorOfPeople(people, 0) })
	if err == api.OK {
		number, err = firstWrong(x.Ways, func(_ []api.CareWay, w api.CareWay) api.Errno { return errorOfWay(w, len(x.People)) })
	}
	return number, err
}

// OutBy returns how many people are out by some ticks.
func OutBy(x api.CareRooms, ticks int) (int, api.Errno) {
	c, err := checkRooms(x, errorOfTicks(ticks))
	if err != api.OK {
		return 0, err
	}
	return c.outBy(ticks), api.OK
}

// LeastTime returns the least number of ticks by which all are out.
func LeastTime(x api.CareRooms, most int) (int, api.Errno) {
	c, err := checkRooms(x, errorOfTicks(most))
	if err != api.OK {
		return 0, err
	}
	all := 0
	for _, people := range c.People {
		all += people
	}
	ticks := sort.Search(most+1, func(ticks int) bool { return c.outBy(ticks) == all }) // with more ticks no fewer are out
	if ticks > most {
		return 0, api.ErrLate
	}
	return ticks, api.OK
}

// CheckCut returns the bound of a cut.
func CheckCut(x api.CareRooms, times []int, ticks int) (int, api.Errno) {
	c, err := checkRooms(x, errorOfTicks(ticks))
	if err == api.OK && len(times) != len(x.People) {
		err = api.ErrShape
	}
	if err == api.OK {
		_, err = firstWrong(times, func(_ []int, time int) api.Errno { return errorOfTime(time, ticks) })
	}
	if err != api.OK {
		return 0, err
	}
	return c.bound(times, ticks), api.OK
}

// BestCut returns a cut whose bound is how many people are out.
func BestCut(x api.CareRooms, ticks int) ([]int, api.Errno) {
	c, err := checkRooms(x, errorOfTicks(ticks))
	if err != api.OK {
		return nil, err
	}
	return c.bestCut(ticks), api.OK
}

// checkRooms returns the first error of rooms, or else of the further ones.
func checkRooms(x api.CareRooms, further ...api.Errno) (checkedRooms, api.Errno) {
	_, err := CheckRooms(x)
	if err = firstOf(err, firstOf(further...)); err != api.OK {
		return checkedRooms{}, err
	}
	return checkedRooms{x}, api.OK
}

func errorOfPeople(people, least int) api.Errno {
	if !within(people, least, api.MaxCarePeople) {
		return api.ErrRange
	}
	return api.OK
}

// errorOfWay returns what is wrong with a way between some of so many rooms.
func errorOfWay(w api.CareWay, rooms int) api.Errno {
	switch {
	case errorOfNumber(w.From, rooms) != api.OK, w.To != api.CareOut && errorOfNumber(w.To, rooms) != api.OK:
		return api.ErrMissing
	case w.From == w.To:
		return api.ErrClash
	}
	return errorOfPeople(w.Most, 1)
}

func errorOfTicks(ticks int) api.Errno {
	return errorOfTime(ticks, api.MaxCareTicks)
}

func errorOfTime(time, ticks int) api.Errno {
	if !within(time, 0, ticks) {
		return api.ErrRange
	}
	return api.OK
}

// bound returns the bound of a cut for some ticks.
func (c checkedRooms) bound(times []int, ticks int) int {
	isInside := func(room, time int) bool { return room != api.CareOut && time >= times[room] }
	bound := 0
	for room, people := range c.People {
		if !isInside(room, 0) {
			bound += people
		}
	}
	for time := range ticks {
		for _, w := range c.Ways {
			if isInside(w.From, time) && !isInside(w.To, time+1) {
				bound += w.Most
			}
		}
	}
	return bound
}
