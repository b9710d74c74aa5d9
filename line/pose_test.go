package line_test

import (
	"math"
	"math/big"
	"math/rand"
	"testing"

	"guideway/api"
	"guideway/line"
)

// P1.3
func TestCheckVehicle(t *testing.T) {
	right := api.LineVehicle{Length: 10000, Clear: 60, Step: 2500}
	for _, x := range []struct {
		change func(*api.LineVehicle)
		want   api.Errno
	}{
		{func(v *api.LineVehicle) {}, api.OK},
		{func(v *api.LineVehicle) { *v = api.LineVehicle{Length: 1000, Clear: 0, Step: 100} }, api.OK},
		{func(v *api.LineVehicle) { *v = api.LineVehicle{Length: 30000, Clear: 1000, Step: 30000} }, api.OK},
		{func(v *api.LineVehicle) { v.Length = 999 }, api.ErrRange},
		{func(v *api.LineVehicle) { v.Length = 30001 }, api.ErrRange},
		{func(v *api.LineVehicle) { v.Length = math.MinInt }, api.ErrRange},
		{func(v *api.LineVehicle) { v.Clear = -1 }, api.ErrRange},
		{func(v *api.LineVehicle) { v.Clear = 1001 }, api.ErrRange},
		{func(v *api.LineVehicle) { v.Step = 99 }, api.ErrRange},
		{func(v *api.LineVehicle) { v.Step = 30001 }, api.ErrRange},
		{func(v *api.LineVehicle) { v.Step = 0 }, api.ErrRange},
	} {
		v := right
		x.change(&v)
		if e := line.CheckVehicle(v); e != x.want {
			t.Error(v, e)
		}
	}
}

// P1.3: the examples.
func TestDeviations(t *testing.T) {
	v := api.LineVehicle{Length: 10000, Clear: 60, Step: 2500}
	off := short()
	off.Joints[1].Off = api.Range{Lo: -10, Hi: 10}
	end := short()
	end.Joints[2].Off = api.Range{Lo: -10, Hi: 20}
	for _, x := range []struct {
		l     api.LineLine
		place int
		want  api.Range
	}{
		{short(), 2500, api.Range{Lo: -38, Hi: -37}},
		{short(), 5000, api.Range{Lo: -50, Hi: -50}},
		{short(), 7500, api.Range{Lo: -38, Hi: -37}},
		{off, 5000, api.Range{Lo: -55, Hi: -45}},
		{off, 2500, api.Range{Lo: -42, Hi: -33}}, // -37.5, and 1 - 1/4 1/4 - 3/4 3/4 = 6/16 of Off
		{end, 5000, api.Range{Lo: -55, Hi: -47}}, // less a quarter of Off
	} {
		if r, e := line.DeviationAt(x.l, v, [2]int{x.place, 1}); r != x.want || e != api.OK {
			t.Error(x, r, e)
		}
	}
}

// P1.3: ends at joints; a joint just at an end is not beneath.
func TestDeviationsAtJoints(t *testing.T) {
	l := short()
	for i := range l.Joints {
		l.Joints[i].Off = api.Range{Lo: -10, Hi: 10}
	}
	long := api.LineVehicle{Length: 20000, Clear: 60, Step: 2500}
	if r, e := line.DeviationAt(l, long, [2]int{0, 1}); r != (api.Range{Lo: -120, Hi: -80}) || e != api.OK {
		t.Error(r, e)
	}
	v := api.LineVehicle{Length: 10000, Clear: 60, Step: 10000}
	for _, pose := range [][2]int{{0, 0}, {0, 1}, {0, 2}, {10000, 0}, {10000, 1}, {10000, 2}} {
		if r, e := line.DeviationAt(l, v, pose); r != (api.Range{}) || e != api.ErrMissing {
			t.Error(pose, r, e)
		}
		if n, e := line.ClearAt(l, v, pose[0]); n != api.AnswerYes || e != api.OK {
			t.Error(pose, n, e)
		}
	}
}

// P1.3, R1: the errors of a vehicle, of a pose, and of a joint that is not beneath.
func TestErrorsOfPoses(t *testing.T) {
	v := api.LineVehicle{Length: 10000, Clear: 60, Step: 2500}
	wrong := v
	wrong.Clear = -1
	longer := api.LineVehicle{Length: 20001, Clear: 60, Step: 2500}
	for _, x := range []struct {
		l    api.LineLine
		v    api.LineVehicle
		pose [2]int
		want api.Errno
	}{
		{short(), wrong, [2]int{-1, -1}, api.ErrRange},
		{short(), v, [2]int{-2500, 1}, api.ErrMissing},
		{short(), v, [2]int{2501, 1}, api.ErrMissing},
		{short(), v, [2]int{12500, 1}, api.ErrMissing},
		{short(), v, [2]int{math.MaxInt / 2500 * 2500, 1}, api.ErrMissing},
		{short(), v, [2]int{math.MinInt, 1}, api.ErrMissing},
		{changedOff(short()), longer, [2]int{0, 1}, api.ErrMissing},
		{short(), v, [2]int{2500, 0}, api.ErrMissing},
		{short(), v, [2]int{2500, 2}, api.ErrMissing},
		{short(), v, [2]int{2500, -1}, api.ErrMissing},
		{short(), v, [2]int{2500, math.MaxInt}, api.ErrMissing},
		{short(), v, [2]int{10000, 1}, api.ErrMissing},
	} {
		if r, e := line.DeviationAt(x.l, x.v, x.pose); r != (api.Range{}) || e != x.want {
			t.Error(x, r, e)
		}
	}
	for _, place := range []int{-2500, 1, 12500, math.MinInt, math.MaxInt} {
		if n, e := line.ClearAt(short(), v, place); n != 0 || e != api.ErrMissing {
			t.Error(place, n, e)
		}
	}
	if n, e := line.ClearAt(short(), wrong, -1); n != 0 || e != api.ErrRange {
		t.Error(n, e)
	}
	if u, e := line.FirstUnclear(short(), wrong); u != (api.LineUnclear{}) || e != api.ErrRange {
		t.Error(u, e)
	}
}

func changedOff(l api.LineLine) api.LineLine {
	l.Joints[1].Off = api.Range{Lo: -100, Hi: 100}
	return l
}

// P1.3
func TestClear(t *testing.T) {
	l := short()
	l.Joints[1].Off = api.Range{Lo: -10, Hi: 10}
	for _, x := range []struct{ clear, place, want int }{
		{56, 5000, api.AnswerYes}, {55, 5000, api.AnswerYes}, {54, 5000, api.AnswerMaybe}, {45, 5000, api.AnswerMaybe},
		{44, 5000, api.AnswerNo}, {0, 5000, api.AnswerNo}, {0, 0, api.AnswerYes}, {0, 10000, api.AnswerYes},
	} {
		for _, mirrored := range []bool{false, true} {
			v := api.LineVehicle{Length: 10000, Clear: x.clear, Step: 2500}
			seen := l
			if mirrored { // the same to the other side
				seen = copied(l)
				seen.Joints[2].Across = -200
			}
			if n, e := line.ClearAt(seen, v, x.place); n != x.want || e != api.OK {
				t.Error(x, mirrored, n, e)
			}
		}
	}
	// The range is what is rounded: -37.5 is told as -38 to -37, which does not lie wholly below -37.
	v := api.LineVehicle{Length: 10000, Clear: 37, Step: 2500}
	if n, e := line.ClearAt(short(), v, 2500); n != api.AnswerMaybe || e != api.OK {
		t.Error(n, e)
	}
}

// P1.3: one joint that is surely too far away decides, also behind one that may be.
func TestClearOfSeveralJoints(t *testing.T) {
	l := straight(4)
	v := api.LineVehicle{Length: 4000, Clear: 20, Step: 100}
	l.Joints[1].Off = api.Range{Lo: -30, Hi: 30}
	if n, e := line.ClearAt(l, v, 0); n != api.AnswerMaybe || e != api.OK {
		t.Error(n, e)
	}
	l.Joints[3].Across = 21
	if n, e := line.ClearAt(l, v, 0); n != api.AnswerNo || e != api.OK {
		t.Error(n, e)
	}
	if u, e := line.FirstUnclear(l, v); u != (api.LineUnclear{Place: 0, Joint: 1, Off: api.Range{Lo: -30, Hi: 30}}) || e != api.OK {
		t.Error(u, e)
	}
	l.Joints[1].Off = api.Range{Lo: -20, Hi: 20}
	if u, e := line.FirstUnclear(l, v); u != (api.LineUnclear{Place: 0, Joint: 3, Off: api.Range{Lo: 21, Hi: 21}}) || e != api.OK {
		t.Error(u, e)
	}
}

// P1.3
func TestFirstUnclear(t *testing.T) {
	v := api.LineVehicle{Length: 10000, Clear: 60, Step: 2500}
	if u, e := line.FirstUnclear(short(), v); u != (api.LineUnclear{}) || e != api.ErrNone {
		t.Error(u, e)
	}
	v.Clear = 40
	if u, e := line.FirstUnclear(short(), v); u != (api.LineUnclear{Place: 5000, Joint: 1, Off: api.Range{Lo: -50, Hi: -50}}) || e != api.OK {
		t.Error(u, e)
	}
	v.Clear = 37 // now also what may be clear
	if u, e := line.FirstUnclear(short(), v); u != (api.LineUnclear{Place: 2500, Joint: 1, Off: api.Range{Lo: -38, Hi: -37}}) || e != api.OK {
		t.Error(u, e)
	}
	v.Length = 20001
	if u, e := line.FirstUnclear(short(), v); u != (api.LineUnclear{}) || e != api.ErrNone {
		t.Error(u, e)
	}
	v.Length = 20000 // the only pose ends where the line does
	if u, e := line.FirstUnclear(short(), v); u != (api.LineUnclear{Place: 0, Joint: 1, Off: api.Range{Lo: -100, Hi: -100}}) || e != api.OK {
		t.Error(u, e)
	}
}

// crookedEnd is a line of 20000 whose last joint alone is far across.
func crookedEnd() api.LineLine {
	l := straight(20)
	l.Joints[19].Across = 1000
	return l
}

// P1.3: the last pose counts whose front end is at the end of the line.
func TestLastPose(t *testing.T) {
	v := api.LineVehicle{Length: 1500, Clear: 400, Step: 18500}
	if u, e := line.FirstUnclear(crookedEnd(), v); u.Place != 18500 || u.Joint != 19 || e != api.OK {
		t.Error(u, e)
	}
	v.Step = 18501
	if u, e := line.FirstUnclear(crookedEnd(), v); u != (api.LineUnclear{}) || e != api.ErrNone {
		t.Error(u, e)
	}
}

// deviation works it out another way: at each corner of all true places, with ends on the true beams, in fractions.
func deviation(l api.LineLine, v api.LineVehicle, p, joint int) api.Range {
	var least, most *big.Rat
	rear, front := beamOf(l, p), beamOf(l, p+v.Length)
	used := []int{rear, rear + 1, front, front + 1, joint}
	for corner := range 1 << len(used) {
		across := make(map[int]*big.Rat)
		for bit, i := range used {
			if across[i] == nil {
				off := l.Joints[i].Off.Lo
				if corner>>bit&1 == 1 {
					off = l.Joints[i].Off.Hi
				}
				across[i] = rat(l.Joints[i].Across+off, 1)
			}
		}
		x := deviationOf(l, v, p, joint, across)
		if least == nil || x.Cmp(least) < 0 {
			least = x
		}
		if most == nil || x.Cmp(most) > 0 {
			most = x
		}
	}
	return api.Range{Lo: roundedDown(least), Hi: roundedUp(most)}
}

func deviationOf(l api.LineLine, v api.LineVehicle, p, joint int, across map[int]*big.Rat) *big.Rat {
	at := func(place int) *big.Rat {
		beam := beamOf(l, place)
		return along(across[beam], across[beam+1], rat(place-placesOf(l)[beam], l.Beams[beam].Length))
	}
	chord := along(at(p), at(p+v.Length), rat(placesOf(l)[joint]-p, v.Length))
	return new(big.Rat).Sub(across[joint], chord)
}

// along is a + (b - a) part.
func along(a, b, part *big.Rat) *big.Rat {
	x := new(big.Rat).Sub(b, a)
	return x.Add(a, x.Mul(x, part))
}

func beamOf(l api.LineLine, place int) int {
	beam := 0
	for i, first := range placesOf(l)[:len(l.Beams)] {
		if first <= place {
			beam = i
		}
	}
	return beam
}

// P1.3: against the other way, with all poses and joints of a line, or some of them.
func TestDeviationsAnotherWay(t *testing.T) {
	tried := 0
	eachLine(t, 20000, func(r *rand.Rand, l api.LineLine) {
		v := someVehicle(r)
		for _, p := range poses(l, v) {
			if r.Intn(6) > 0 {
				continue
			}
			for _, joint := range beneath(l, v, p) {
				want := deviation(l, v, p, joint)
				if got, e := line.DeviationAt(l, v, [2]int{p, joint}); got != want || e != api.OK {
					t.Fatal(l, v, p, joint, got, want, e)
				}
				tried++
			}
		}
	})
	if tried < 1000 {
		t.Error("too few tried:", tried)
	}
}

// P1.3: ClearAt and FirstUnclear are what the deviations tell.
func TestClearIsWhatDeviationsTell(t *testing.T) {
	answers := map[int]int{}
	eachLine(t, 500, func(r *rand.Rand, l api.LineLine) {
		v := someVehicle(r)
		want, none := api.LineUnclear{}, api.ErrNone
		for _, p := range poses(l, v) {
			answer := api.AnswerYes
			for _, joint := range beneath(l, v, p) {
				off, e := line.DeviationAt(l, v, [2]int{p, joint})
				if e != api.OK {
					t.Fatal(e)
				}
				switch {
				case off.Hi < -v.Clear || off.Lo > v.Clear:
					answer = api.AnswerNo
				case off.Lo < -v.Clear || off.Hi > v.Clear:
					answer = min(answer, api.AnswerMaybe)
				default:
					continue
				}
				if none != api.OK {
					want, none = api.LineUnclear{Place: p, Joint: joint, Off: off}, api.OK
				}
			}
			if got, e := line.ClearAt(l, v, p); got != answer || e != api.OK {
				t.Fatal(l, v, p, got, answer, e)
			}
			answers[answer]++
		}
		if got, e := line.FirstUnclear(l, v); got != want || e != none {
			t.Fatal(l, v, got, want, e)
		}
	})
	if len(answers) != 3 {
		t.Error("not all answers are tried", answers)
	}
}

// P1.3, R6: the greatest numbers on the way: the longest beams, and joints as far across as they may be.
func TestDeviationsOfGreatNumbers(t *testing.T) {
	l := straight(3)
	for i := range l.Beams {
		l.Beams[i].Length = 30000
	}
	for i := range l.Joints {
		l.Joints[i].Across = 20000 - 40000*(i%2)
		l.Joints[i].Off = api.Range{Lo: -100, Hi: 100}
	}
	for _, v := range []api.LineVehicle{{Length: 30000, Step: 101}, {Length: 29999, Step: 14999}} {
		for _, p := range poses(l, v) {
			for _, joint := range beneath(l, v, p) {
				want := deviation(l, v, p, joint)
				if got, e := line.DeviationAt(l, v, [2]int{p, joint}); got != want || e != api.OK {
					t.Fatal(v, p, joint, got, want, e)
				}
			}
		}
	}
}

// narrower is a line whose joints' Off lie within those of l.
func narrower(r *rand.Rand, l api.LineLine) api.LineLine {
	l = copied(l)
	for i, j := range l.Joints {
		lo := oneOf(r, j.Off.Lo, j.Off.Hi)
		l.Joints[i].Off = api.Range{Lo: lo, Hi: oneOf(r, lo, j.Off.Hi)}
	}
	return l
}

// P1.9: a pose that is clear is clear for narrower Off; a survey makes no clear pose unclear, warmth no unclear one clear.
func TestClearWhateverIsTrue(t *testing.T) {
	changes := 0
	eachLine(t, 500, func(r *rand.Rand, l api.LineLine) {
		v := someVehicle(r)
		exact := narrower(r, l)
		joint := r.Intn(len(l.Joints))
		lo := l.Joints[joint].Across + oneOf(r, l.Joints[joint].Off.Lo, l.Joints[joint].Off.Hi)
		found, e1 := line.Surveyed(l, joint, api.Range{Lo: lo - r.Intn(5), Hi: lo + r.Intn(5)})
		warm, e2 := line.Warmed(l, oneOf(r, 0, 100))
		if e1 != api.OK || e2 != api.OK {
			t.Fatal(l, joint, lo, e1, e2)
		}
		for _, p := range poses(l, v) {
			was, _ := line.ClearAt(l, v, p)
			for _, less := range []api.LineLine{exact, found} {
				if is, e := line.ClearAt(less, v, p); was == api.AnswerYes && is != api.AnswerYes || e != api.OK {
					t.Error(l, less, v, p, was, is, e)
				}
			}
			is, e := line.ClearAt(warm, v, p)
			if was != api.AnswerYes && is == api.AnswerYes || e != api.OK {
				t.Error(l, warm, v, p, was, is, e)
			}
			if is != was {
				changes++
			}
		}
	})
	if changes == 0 {
		t.Error("warmth changes nothing")
	}
}

// P1.10: on a straight line all deviations are 0.
func TestStraightIsClear(t *testing.T) {
	r := rand.New(rand.NewSource(2))
	for range 100 {
		l := straight(between(r, 2, 20))
		slope := between(r, -900, 900) // of 1000, as lengths are whole thousands
		first := between(r, -500, 500)
		for i := range l.Beams {
			l.Beams[i].Length = 1000 * between(r, 1, 2)
			l.Beams[i].Cant = oneOf(r, -300, 300)
		}
		for i, place := range placesOf(l) {
			l.Joints[i] = api.LineJoint{Across: first + slope*place/1000, Up: between(r, -20000, 20000)}
		}
		if _, e := line.CheckLine(l); e != api.OK {
			continue
		}
		v := someVehicle(r)
		v.Clear = 0
		for _, p := range poses(l, v) {
			for _, joint := range beneath(l, v, p) {
				if x, e := line.DeviationAt(l, v, [2]int{p, joint}); x != (api.Range{}) || e != api.OK {
					t.Error(l, v, p, joint, x, e)
				}
			}
		}
		if u, e := line.FirstUnclear(l, v); e != api.ErrNone {
			t.Error(l, v, u, e)
		}
	}
}

// P1.10: moved sideways a line has the same deviations, bends and limits.
func TestMovedSideways(t *testing.T) {
	eachLine(t, 15000, func(r *rand.Rand, l api.LineLine) {
		v := someVehicle(r)
		moved := copied(l)
		by := between(r, -5000, 5000)
		for i := range moved.Joints {
			moved.Joints[i].Across += by
		}
		for _, p := range poses(l, v) {
			for _, joint := range beneath(l, v, p) {
				x, e1 := line.DeviationAt(l, v, [2]int{p, joint})
				y, e2 := line.DeviationAt(moved, v, [2]int{p, joint})
				if x != y || e1 != api.OK || e2 != api.OK {
					t.Error(l, by, v, p, joint, x, y, e1, e2)
				}
			}
		}
		for joint := 1; joint < len(l.Beams); joint++ {
			x, e1 := line.BendAt(l, joint)
			y, e2 := line.BendAt(moved, joint)
			n, e3 := line.LimitAt(l, 700, joint)
			m, e4 := line.LimitAt(moved, 700, joint)
			if x != y || e1 != e2 || n != m || e3 != api.OK || e4 != api.OK {
				t.Error(l, by, joint, x, y, n, m, e1, e2, e3, e4)
			}
		}
	})
}
