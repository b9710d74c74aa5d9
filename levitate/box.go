package levitate

import (
	"slices"

	"guideway/api"
)

// CheckBox accepts a box that is kept; otherwise it returns the first map, and its first row, by which it is left.
func CheckBox(p api.LevitatePlant, box []int) (api.LevitateMark, api.Errno) {
	c, err := checkBox(p, box)
	if err != api.OK {
		return api.LevitateMark{}, err
	}
	if mark, isLeft := c.exit(box); isLeft {
		return mark, api.ErrBreak
	}
	return api.LevitateMark{}, api.OK
}

// Escape returns a state in a box, and a sample by which the box is left from there.
func Escape(p api.LevitatePlant, box []int) (api.LevitateEscape, api.Errno) {
	c, err := checkBox(p, box)
	if err != api.OK {
		return api.LevitateEscape{}, err
	}
	mark, isLeft := c.exit(box)
	if !isLeft {
		return api.LevitateEscape{}, api.ErrNone
	}
	state := make([]int, c.parts)
	for k, entry := range c.Maps[mark.Map][mark.Row] {
		switch {
		case entry < 0:
			state[k] = box[k]
		case entry > 0:
			state[k] = -box[k]
		}
	}
	noise := make([]int, c.parts)
	noise[mark.Row] = -c.Noise[mark.Row]
	return api.LevitateEscape{State: state, Sample: api.LevitateSample{Map: mark.Map, Noise: noise}}, api.OK
}

// LeastBox returns the least box that is kept and has at least the numbers of another one.
func LeastBox(p api.LevitatePlant, start []int) ([]int, api.Errno) {
	c, err := checkBox(p, start)
	if err != api.OK {
		return nil, err
	}
	box := slices.Clone(start)
	for {
		mark, isLeft := c.exit(box)
		if !isLeft {
			return box, api.OK
		}
		// No kept box has less here, as each has at least the numbers that this one has so far.
		box[mark.Row] = c.reach(mark, box)
		if box[mark.Row] > api.MaxLevitateState {
			return nil, api.ErrBreak
		}
	}
}

func checkBox(p api.LevitatePlant, box []int) (checkedPlant, api.Errno) {
	c, err := check(p)
	if err != api.OK {
		return checkedPlant{}, err
	}
	if err := checkNumbers(box, c.parts, 0); err != api.OK {
		return checkedPlant{}, err
	}
	return c, api.OK
}

// exit returns the first map, and its first row, by which a box is left, and whether there is one.
func (c checkedPlant) exit(box []int) (api.LevitateMark, bool) {
	for i := range c.Maps {
		for row := range c.parts {
			if mark := (api.LevitateMark{Map: i, Row: row}); c.reach(mark, box) > box[row] {
				return mark, true
			}
		}
	}
	return api.LevitateMark{}, false
}

// reach returns the greatest size of the number of a row behind a step of its map from a state in a box.
func (c checkedPlant) reach(at api.LevitateMark, box []int) int {
	sum := 0
	for k, entry := range c.Maps[at.Map][at.Row] {
		sum += size(entry) * box[k]
	}
	return ceiling(sum, c.Den) + c.Noise[at.Row]
}
