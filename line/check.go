package line

import "guideway/api"

// CheckLine returns the first error of a line, and the item that has it.
func CheckLine(l api.LineLine) (api.LineMark, api.Errno) {
	if err := checkWhole(l); err != api.OK {
		return api.LineMark{}, err
	}
	for i, joint := range l.Joints {
		if err := checkJoint(joint); err != api.OK {
			return api.LineMark{List: api.LineJoints, Number: i}, err
		}
	}
	for i, beam := range l.Beams {
		if err := checkBeam(beam); err != api.OK {
			return api.LineMark{List: api.LineBeams, Number: i}, err
		}
	}
	if len(l.Switches) > api.MaxLineSwitches {
		return api.LineMark{}, api.ErrLarge
	}
	return checkSwitches(l)
}

func checkWhole(l api.LineLine) api.Errno {
	switch {
	case !isName(l.Name):
		return api.ErrName
	case len(l.Beams) == 0 || len(l.Joints) != len(l.Beams)+1:
		return api.ErrShape
	case len(l.Beams) > api.MaxLineBeams:
		return api.ErrLarge
	}
	return api.OK
}

func checkJoint(joint api.LineJoint) api.Errno {
	switch {
	case exceeds(joint.Across, api.MaxLineAcross), exceeds(joint.Up, api.MaxLineAcross),
		exceeds(joint.Off.Lo, api.MaxLineOff), exceeds(joint.Off.Hi, api.MaxLineOff):
		return api.ErrRange
	case joint.Off.Lo > joint.Off.Hi:
		return api.ErrOrder
	}
	return api.OK
}

func checkBeam(beam api.LineBeam) api.Errno {
	if !within(beam.Length, api.MinLineBeam, api.MaxLineBeam) || exceeds(beam.Cant, api.MaxLineCant) {
		return api.ErrRange
	}
	return api.OK
}

func checkSwitches(l api.LineLine) (api.LineMark, api.Errno) {
	names := map[string]bool{}
	bent := map[int]bool{}
	for i, s := range l.Switches {
		if err := checkSwitch(s, len(l.Joints)-2, names, bent); err != api.OK {
			return api.LineMark{List: api.LineSwitches, Number: i}, err
		}
		names[s.Name] = true
		for k := range s.Across {
			bent[s.First+k] = true
		}
	}
	return api.LineMark{}, api.OK
}

// checkSwitch checks a switch of a line whose last inner joint is told, behind switches with these names and joints.
func checkSwitch(s api.LineSwitch, last int, names map[string]bool, bent map[int]bool) api.Errno {
	switch {
	case !isName(s.Name):
		return api.ErrName
	case names[s.Name]:
		return api.ErrExists
	case len(s.Across) == 0:
		return api.ErrShape
	case !within(s.First, 1, last) || len(s.Across) > last-s.First+1:
		return api.ErrMissing
	}
	for _, across := range s.Across {
		if exceeds(across, api.MaxLineAcross) {
			return api.ErrRange
		}
	}
	for k := range s.Across {
		if bent[s.First+k] {
			return api.ErrClash
		}
	}
	return api.OK
}

func isName(s string) bool {
	if len(s) == 0 || len(s) > api.MaxName || !isLetter(s[0]) {
		return false
	}
	for i := range len(s) {
		if !isLetter(s[i]) && !isDigit(s[i]) && s[i] != '-' {
			return false
		}
	}
	return true
}

func isLetter(b byte) bool {
	return b >= 'a' && b <= 'z' || b >= 'A' && b <= 'Z'
}

func isDigit(b byte) bool {
	return b >= '0' && b <= '9'
}
