package levitate

import (
	"math"
	"slices"

	"guideway/api"
)

// MiddleOf returns the middle one of the readings of three sensors.
func MiddleOf(s api.LevitateSensors) (int, api.Errno) {
	var gaps [3]int
	for i, value := range s.Values {
		gap, err := gapOf(float64(value))
		if err != api.OK {
			return 0, err
		}
		gaps[i] = gap
	}
	if !within(s.Slack, 0, api.MaxLevitateGap) {
		return 0, api.ErrRange
	}
	slices.Sort(gaps[:])
	if gaps[1]-gaps[0] > s.Slack && gaps[2]-gaps[1] > s.Slack {
		return 0, api.ErrClash
	}
	return gaps[1], api.OK
}

// gapOf returns the gap that a reading tells.
func gapOf(value float64) (int, api.Errno) {
	// What is no number is not equal to itself, and so to nothing that it is cut to.
	if math.IsInf(value, 0) || math.Trunc(value) != value {
		return 0, api.ErrForm
	}
	if value < 0 || value > api.MaxLevitateGap {
		return 0, api.ErrRange
	}
	return int(value), api.OK
}
