package care

import (
	"cmp"
	"slices"

	"guideway/api"
)

// checkedRescue embeds a rescue that is right.
type checkedRescue struct {
	api.CareRescue
}

// WorstPlace returns twice the worst place, and twice the length behind which it is reached from some of the depots.
func WorstPlace(x api.CareRescue, depots []int) ([2]int, api.Errno) {
	c, err := checkRescue(x)
	if err == api.OK {
		err = c.errorOfDepots(depots)
	}
	if err != api.OK {
		return [2]int{}, err
	}
	return c.worst(depots), api.OK
}

// FewestDepots returns the least set of depots from which each place is reached behind at most a length.
func FewestDepots(x api.CareRescue, within int) ([]int, api.Errno) {
	c, err := checkRescue(x, errorOfPlace(within))
	if err != api.OK {
		return nil, err
	}
	for _, depots := range c.sets() {
		if c.worst(depots)[1] <= 2*within {
			return depots, api.OK
		}
	}
	return nil, api.ErrNone
}

// checkRescue returns the first error of a rescue, or else of the further ones.
func checkRescue(x api.CareRescue, further ...api.Errno) (checkedRescue, api.Errno) {
	if err := firstOf(errorOfRescue(x), firstOf(further...)); err != api.OK {
		return checkedRescue{}, err
	}
	return checkedRescue{x}, api.OK
}

func errorOfRescue(x api.CareRescue) api.Errno {
	switch {
	case !within(x.Length, 0, api.MaxPlace):
		return api.ErrRange
	case len(x.Depots) == 0:
		return api.ErrShape
	case len(x.Depots) > api.MaxCareDepots:
		return api.ErrLarge
	}
	_, err := firstWrong(x.Depots, func(_ []api.CareDepot, d api.CareDepot) api.Errno {
		if !within(d.Place, 0, x.Length) || !within(d.Late, 0, api.MaxPlace) {
			return api.ErrRange
		}
		return api.OK
	})
	return err
}

func (c checkedRescue) errorOfDepots(depots []int) api.Errno {
	if len(depots) == 0 {
		return api.ErrShape
	}
	_, err := firstWrong(depots, func(earlier []int, depot int) api.Errno { return errorOfMember(earlier, depot, len(c.Depots)) })
	return err
}

// sets returns all sets of depots but that of none, the fewest depots first, sets of as many lexicographically.
func (c checkedRescue) sets() [][]int {
	sets := [][]int{nil}
	for depot := range c.Depots {
		for _, set := range sets {
			sets = append(sets, append(slices.Clone(set), depot))
		}
	}
	slices.SortFunc(sets, func(a, b []int) int { return cmp.Or(cmp.Compare(len(a), len(b)), slices.Compare(a, b)) })
	return sets[1:]
}

// worst returns twice the worst place, and twice the length behind which it is reached from some depots.
func (c checkedRescue) worst(depots []int) [2]int {
	compare := func(a, b int) int { return cmp.Compare(c.behindAt(a, depots), c.behindAt(b, depots)) }
	place := slices.MaxFunc(c.farthest(depots), compare) // of several the first one
	return [2]int{place, c.behindAt(place, depots)}
}

// farthest returns twice the places of which one is the worst one, ascending: the ends, and where vehicles meet. Beside each
// other place there is one that is reached later.
func (c checkedRescue) farthest(depots []int) []int {
	list := []int{0, 2 * c.Length}
	for _, i := range depots {
		for _, k := range depots {
			left, right := c.Depots[i], c.Depots[k]
			meeting := left.Place - left.Late + right.Place + right.Late
			if within(meeting, 0, 2*c.Length) {
				list = append(list, meeting)
			}
		}
	}
	slices.Sort(list)
	return list
}

// behindAt returns twice the length behind which a place, told twice, is reached from some depots.
func (c checkedRescue) behindAt(twice int, depots []int) int {
	var lengths []int
	for _, i := range depots {
		d := c.Depots[i]
		lengths = append(lengths, 2*d.Late+sizeOf(twice-2*d.Place))
	}
	return slices.Min(lengths)
}
