package line

import (
	"iter"

	"guideway/api"
)

// CheckVehicle returns the error of a vehicle.
func CheckVehicle(v api.LineVehicle) api.Errno {
	if !within(v.Length, api.MinLineVehicle, api.MaxLineVehicle) || !within(v.Clear, 0, api.MaxLineClear) ||
		!within(v.Step, api.MinLineStep, api.MaxLineStep) {
		return api.ErrRange
	}
	return api.OK
}

// DeviationAt returns by how much a joint may be away from a vehicle above it.
func DeviationAt(l api.LineLine, v api.LineVehicle, pose [2]int) (api.Range, api.Errno) {
	c, err := checkPose(l, v, pose[0])
	if err != api.OK {
		return api.Range{}, err
	}
	for joint := range c.beneath(v, pose[0]) {
		if joint == pose[1] {
			return c.deviation(v, pose[0], joint), api.OK
		}
	}
	return api.Range{}, api.ErrMissing
}

// ClearAt returns whether a pose is clear.
func ClearAt(l api.LineLine, v api.LineVehicle, place int) (int, api.Errno) {
	c, err := checkPose(l, v, place)
	if err != api.OK {
		return 0, err
	}
	answer := api.AnswerYes
	for joint := range c.beneath(v, place) {
		off := c.deviation(v, place, joint)
		if off.Hi < -v.Clear || off.Lo > v.Clear {
			return api.AnswerNo, api.OK
		}
		if !isClear(v, off) {
			answer = api.AnswerMaybe
		}
	}
	return answer, api.OK
}

// FirstUnclear returns the first pose that is not clear for sure, and the first joint there that may be too far away.
func FirstUnclear(l api.LineLine, v api.LineVehicle) (api.LineUnclear, api.Errno) {
	c, err := checkRide(l, v)
	if err != api.OK {
		return api.LineUnclear{}, err
	}
	for place := range c.poses(v) {
		for joint := range c.beneath(v, place) {
			if off := c.deviation(v, place, joint); !isClear(v, off) {
				return api.LineUnclear{Place: place, Joint: joint, Off: off}, api.OK
			}
		}
	}
	return api.LineUnclear{}, api.ErrNone
}

func checkRide(l api.LineLine, v api.LineVehicle) (checkedLine, api.Errno) {
	c, err := check(l)
	if err != api.OK {
		return checkedLine{}, err
	}
	if err := CheckVehicle(v); err != api.OK {
		return checkedLine{}, err
	}
	return c, api.OK
}

func checkPose(l api.LineLine, v api.LineVehicle, place int) (checkedLine, api.Errno) {
	c, err := checkRide(l, v)
	if err != api.OK {
		return checkedLine{}, err
	}
	if !within(place, 0, c.length()-v.Length) || place%v.Step != 0 {
		return checkedLine{}, api.ErrMissing
	}
	return c, api.OK
}

func isClear(v api.LineVehicle, off api.Range) bool {
	return off.Lo >= -v.Clear && off.Hi <= v.Clear
}

// poses yields all poses of a vehicle, from the first one on.
func (c checkedLine) poses(v api.LineVehicle) iter.Seq[int] {
	return func(yield func(int) bool) {
		for place := 0; place+v.Length <= c.length(); place += v.Step {
			if !yield(place) {
				return
			}
		}
	}
}

// beneath yields the joints beneath a pose, the rear ones first.
func (c checkedLine) beneath(v api.LineVehicle, place int) iter.Seq[int] {
	return func(yield func(int) bool) {
		rear, _ := c.beamAt(place)
		for joint := rear + 1; c.places[joint] < place+v.Length; joint++ {
			if !yield(joint) {
				return
			}
		}
	}
}

// deviation returns the deviation at a joint beneath a pose. It is a sum of true places, each times a part: a joint's
// own place counts in full, those of the ends' joints are taken away; a joint may be one of these, too, so that its
// parts are added up before its Off is asked.
func (c checkedLine) deviation(v api.LineVehicle, place, joint int) api.Range {
	rear, passed := c.beamAt(place)
	front, reached := c.beamAt(place + v.Length)
	rearLength, frontLength := c.Beams[rear].Length, c.Beams[front].Length
	along := c.places[joint] - place

	whole := v.Length * rearLength * frontLength
	var parts [api.MaxLineBeams + 1]int
	parts[joint] += whole
	parts[rear] -= (v.Length - along) * (rearLength - passed) * frontLength
	parts[rear+1] -= (v.Length - along) * passed * frontLength
	parts[front] -= along * (frontLength - reached) * rearLength
	parts[front+1] -= along * reached * rearLength

	lo, hi := 0, 0
	for i := rear; i <= front+1; i++ {
		across, off := c.Joints[i].Across, c.Joints[i].Off
		if parts[i] < 0 {
			off.Lo, off.Hi = off.Hi, off.Lo
		}
		lo += parts[i] * (across + off.Lo)
		hi += parts[i] * (across + off.Hi)
	}
	return api.Range{Lo: floor(lo, whole), Hi: ceiling(hi, whole)}
}
