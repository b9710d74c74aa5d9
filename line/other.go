package line

import (
	"slices"

	"guideway/api"
)

// Surveyed returns a line with a joint that was found in a range of places across.
func Surveyed(l api.LineLine, joint int, found api.Range) (api.LineLine, api.Errno) {
	c, err := check(l)
	if err != api.OK {
		return api.LineLine{}, err
	}
	if !c.hasJoint(joint) {
		return api.LineLine{}, api.ErrMissing
	}
	if found.Lo > found.Hi {
		return api.LineLine{}, api.ErrOrder
	}
	across, off := c.Joints[joint].Across, c.Joints[joint].Off
	// What was found may be any int, so that nothing is taken from it before it is known to be small.
	both, some := common(found, api.Range{Lo: across + off.Lo, Hi: across + off.Hi})
	if !some {
		return api.LineLine{}, api.ErrClash
	}
	out := copyOf(l)
	out.Joints[joint].Off = api.Range{Lo: both.Lo - across, Hi: both.Hi - across}
	return out, api.OK
}

// Warmed returns a line whose joints may be away from their places by more.
func Warmed(l api.LineLine, by int) (api.LineLine, api.Errno) {
	if _, err := check(l); err != api.OK {
		return api.LineLine{}, err
	}
	if !within(by, 0, api.MaxLineOff) {
		return api.LineLine{}, api.ErrRange
	}
	out := copyOf(l)
	for i, joint := range out.Joints {
		out.Joints[i].Off = api.Range{
			Lo: max(joint.Off.Lo-by, -api.MaxLineOff),
			Hi: min(joint.Off.Hi+by, api.MaxLineOff),
		}
	}
	return out, api.OK
}

// Branch returns the branch of a switch.
func Branch(l api.LineLine, name string) (api.LineLine, api.Errno) {
	if _, err := check(l); err != api.OK {
		return api.LineLine{}, err
	}
	number := slices.IndexFunc(l.Switches, func(s api.LineSwitch) bool { return s.Name == name })
	if number < 0 {
		return api.LineLine{}, api.ErrMissing
	}
	out := copyOf(l)
	bent := out.Switches[number]
	for k, across := range bent.Across {
		out.Joints[bent.First+k].Across = across
	}
	out.Switches = nil
	return out, api.OK
}

// spot is where a joint stands.
type spot struct{ across, up int }

func spotOf(joint api.LineJoint) spot {
	return spot{joint.Across, joint.Up}
}

// Joined returns a line with the beams of another one behind it.
func Joined(a, b api.LineLine) (api.LineLine, api.Errno) {
	if _, err := check(a); err != api.OK {
		return api.LineLine{}, err
	}
	if _, err := check(b); err != api.OK {
		return api.LineLine{}, err
	}
	last := len(a.Joints) - 1
	ends := map[spot]api.Range{spotOf(a.Joints[last]): a.Joints[last].Off}
	off, meets := ends[spotOf(b.Joints[0])]
	if !meets {
		return api.LineLine{}, api.ErrClash
	}
	both, some := common(off, b.Joints[0].Off)
	if !some {
		return api.LineLine{}, api.ErrClash
	}
	if len(a.Beams)+len(b.Beams) > api.MaxLineBeams {
		return api.LineLine{}, api.ErrLarge
	}
	out := api.LineLine{
		Name:   a.Name,
		Joints: slices.Concat(a.Joints, b.Joints[1:]),
		Beams:  slices.Concat(a.Beams, b.Beams),
	}
	out.Joints[last].Off = both
	return out, api.OK
}

// Reversed returns a line from its end to its beginning.
func Reversed(l api.LineLine) (api.LineLine, api.Errno) {
	if _, err := check(l); err != api.OK {
		return api.LineLine{}, err
	}
	out := copyOf(l)
	slices.Reverse(out.Joints)
	for i, joint := range out.Joints {
		out.Joints[i].Across = -joint.Across
		out.Joints[i].Off = api.Range{Lo: -joint.Off.Hi, Hi: -joint.Off.Lo}
	}
	slices.Reverse(out.Beams)
	for i := range out.Beams {
		out.Beams[i].Cant = -out.Beams[i].Cant
	}
	for i, s := range out.Switches {
		out.Switches[i].First = len(l.Joints) - s.First - len(s.Across)
		slices.Reverse(s.Across)
		for k := range s.Across {
			s.Across[k] = -s.Across[k]
		}
	}
	return out, api.OK
}

func copyOf(l api.LineLine) api.LineLine {
	l.Joints = slices.Clone(l.Joints)
	l.Beams = slices.Clone(l.Beams)
	l.Switches = slices.Clone(l.Switches)
	for i := range l.Switches {
		l.Switches[i].Across = slices.Clone(l.Switches[i].Across)
	}
	return l
}
