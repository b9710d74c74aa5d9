package line

import (
	"math/bits"

	"guideway/api"
)

// GradientOf returns the gradient of a beam.
func GradientOf(l api.LineLine, beam int) (api.Frac, api.Errno) {
	c, err := check(l)
	if err != api.OK {
		return api.Frac{}, err
	}
	if beam < 0 || beam >= len(c.Beams) {
		return api.Frac{}, api.ErrMissing
	}
	return c.gradient(beam), api.OK
}

// SteepestOf returns the first beam whose gradient is the greatest in size, and this gradient.
func SteepestOf(l api.LineLine) (int, api.Frac, api.Errno) {
	c, err := check(l)
	if err != api.OK {
		return 0, api.Frac{}, err
	}
	steepest := 0
	for beam := range c.Beams {
		if size(c.rise(beam))*c.Beams[steepest].Length > size(c.rise(steepest))*c.Beams[beam].Length {
			steepest = beam
		}
	}
	return steepest, c.gradient(steepest), api.OK
}

// rise is what the second joint of a beam is higher than the first one.
func (c checkedLine) rise(beam int) int {
	return c.Joints[beam+1].Up - c.Joints[beam].Up
}

func (c checkedLine) gradient(beam int) api.Frac {
	return fraction(1000*c.rise(beam), c.Beams[beam].Length)
}

// BendAt returns the bend at an inner joint.
func BendAt(l api.LineLine, joint int) (api.Frac, api.Errno) {
	c, err := check(l)
	if err != api.OK {
		return api.Frac{}, err
	}
	if !c.isInner(joint) {
		return api.Frac{}, api.ErrMissing
	}
	num, den := c.turn(joint)
	bend := fraction(1000*num, den)
	if size(bend.Num) > api.MaxPart || bend.Den > api.MaxPart {
		return api.Frac{}, api.ErrLarge
	}
	return bend, api.OK
}

// turn returns the slope of the beam behind an inner joint less that of the beam ahead of it, not in lowest terms.
func (c checkedLine) turn(joint int) (num, den int) {
	ahead, behind := c.Beams[joint-1].Length, c.Beams[joint].Length
	return c.aside(joint)*ahead - c.aside(joint-1)*behind, ahead * behind
}

// aside is what the second joint of a beam is farther across than the first one.
func (c checkedLine) aside(beam int) int {
	return c.Joints[beam+1].Across - c.Joints[beam].Across
}

// LimitAt returns the greatest square of a speed that is permitted at an inner joint.
func LimitAt(l api.LineLine, side, joint int) (int, api.Errno) {
	c, err := checkSide(l, side)
	if err != api.OK {
		return 0, err
	}
	if !c.isInner(joint) {
		return 0, api.ErrMissing
	}
	return c.limit(side, joint), api.OK
}

// LimitsOf returns the limits at all inner joints.
func LimitsOf(l api.LineLine, side int) ([]int, api.Errno) {
	c, err := checkSide(l, side)
	if err != api.OK {
		return nil, err
	}
	var limits []int
	for joint := 1; c.isInner(joint); joint++ {
		limits = append(limits, c.limit(side, joint))
	}
	return limits, api.OK
}

func checkSide(l api.LineLine, side int) (checkedLine, api.Errno) {
	c, err := check(l)
	if err != api.OK {
		return checkedLine{}, err
	}
	if !within(side, 0, api.MaxLineSide) {
		return checkedLine{}, api.ErrRange
	}
	return c, api.OK
}

// limit is the greatest whole s with s |num| / den / (both / 2) at most held / 2000.
func (c checkedLine) limit(side, joint int) int {
	num, den := c.turn(joint)
	if num == 0 {
		return api.MaxSquare
	}
	ahead, behind := c.Beams[joint-1], c.Beams[joint]
	both, cant := ahead.Length+behind.Length, ahead.Cant+behind.Cant
	if num < 0 {
		num, cant = -num, -cant
	}
	held := 2000*side + cant*api.LineFall
	if held < 0 {
		return 0
	}
	// The product may have 70 bits; its quotient has fewer than 64, as the divisor is at least 4000.
	high, low := bits.Mul64(uint64(held*both), uint64(den))
	square, _ := bits.Div64(high, low, uint64(4000*num))
	return int(min(square, api.MaxSquare))
}
