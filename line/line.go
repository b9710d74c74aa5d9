// Package line is chapter 1: the guideway. See shared/doc/01-line.md.
package line

import "guideway/api"

// checkedLine embeds a line that is right, and knows the places of its joints.
type checkedLine struct {
	api.LineLine
	places []int
}

func check(l api.LineLine) (checkedLine, api.Errno) {
	if _, err := CheckLine(l); err != api.OK {
		return checkedLine{}, err
	}
	places := make([]int, len(l.Joints))
	for i, beam := range l.Beams {
		places[i+1] = places[i] + beam.Length
	}
	return checkedLine{l, places}, api.OK
}

func (c checkedLine) length() int {
	return c.places[len(c.Beams)]
}

func (c checkedLine) hasJoint(joint int) bool {
	return joint >= 0 && joint < len(c.Joints)
}

func (c checkedLine) isInner(joint int) bool {
	return joint > 0 && joint < len(c.Joints)-1
}

// beamAt returns the beam at a place on the line, and how far behind its first joint this is.
func (c checkedLine) beamAt(place int) (int, int) {
	beam := len(c.Beams) - 1
	for c.places[beam] > place {
		beam--
	}
	return beam, place - c.places[beam]
}

// LengthOf returns the length of a line.
func LengthOf(l api.LineLine) (int, api.Errno) {
	c, err := check(l)
	if err != api.OK {
		return 0, err
	}
	return c.length(), api.OK
}

// PlaceOf returns the place of a joint.
func PlaceOf(l api.LineLine, joint int) (int, api.Errno) {
	c, err := check(l)
	if err != api.OK {
		return 0, err
	}
	if !c.hasJoint(joint) {
		return 0, api.ErrMissing
	}
	return c.places[joint], api.OK
}

// BeamAt returns the beam at a place, and how far behind its first joint this is.
func BeamAt(l api.LineLine, place int) (int, int, api.Errno) {
	c, err := checkPlace(l, place)
	if err != api.OK {
		return 0, 0, err
	}
	beam, behind := c.beamAt(place)
	return beam, behind, api.OK
}

// AcrossAt returns how far across a place is.
func AcrossAt(l api.LineLine, place int) (api.Frac, api.Errno) {
	return readAt(l, place, func(j api.LineJoint) int { return j.Across })
}

// UpAt returns how far up a place is.
func UpAt(l api.LineLine, place int) (api.Frac, api.Errno) {
	return readAt(l, place, func(j api.LineJoint) int { return j.Up })
}

// readAt returns what a place has of a number of the joints, on the straight line between both joints of its beam.
func readAt(l api.LineLine, place int, number func(api.LineJoint) int) (api.Frac, api.Errno) {
	c, err := checkPlace(l, place)
	if err != api.OK {
		return api.Frac{}, err
	}
	beam, behind := c.beamAt(place)
	length := c.Beams[beam].Length
	first, second := number(c.Joints[beam]), number(c.Joints[beam+1])
	return fraction(first*length+(second-first)*behind, length), api.OK
}

func checkPlace(l api.LineLine, place int) (checkedLine, api.Errno) {
	c, err := check(l)
	if err != api.OK {
		return checkedLine{}, err
	}
	if place < 0 || place > c.length() {
		return checkedLine{}, api.ErrRange
	}
	return c, api.OK
}
