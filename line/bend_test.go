package line_test

import (
	"math"
	"math/big"
	"math/rand"
	"slices"
	"testing"

	"guideway/api"
	"guideway/line"
)

// P1.2
func TestGradients(t *testing.T) {
	l := bending()
	for beam, want := range []api.Frac{{Num: 10, Den: 1}, {Num: 0, Den: 1}, {Num: -100, Den: 1}, {Num: -5, Den: 3}} {
		if x, e := line.GradientOf(l, beam); x != want || e != api.OK {
			t.Error(beam, x, e)
		}
	}
	for _, beam := range []int{-1, 4, math.MinInt, math.MaxInt} {
		if x, e := line.GradientOf(l, beam); x != (api.Frac{}) || e != api.ErrMissing {
			t.Error(beam, x, e)
		}
	}
	if beam, x, e := line.SteepestOf(l); beam != 2 || x != (api.Frac{Num: -100, Den: 1}) || e != api.OK {
		t.Error(beam, x, e)
	}
}

// P1.2: of equal sizes the first one, also if the signs differ.
func TestSteepestIsTheFirst(t *testing.T) {
	l := straight(4)
	for i, up := range []int{0, 1, 3, 1, 3} {
		l.Joints[i].Up = up
	}
	if beam, x, e := line.SteepestOf(l); beam != 1 || x != (api.Frac{Num: 2, Den: 1}) || e != api.OK {
		t.Error(beam, x, e)
	}
	l.Joints[0].Up = 3
	if beam, x, e := line.SteepestOf(l); beam != 0 || x != (api.Frac{Num: -2, Den: 1}) || e != api.OK {
		t.Error(beam, x, e)
	}
	if beam, x, e := line.SteepestOf(straight(3)); beam != 0 || x != (api.Frac{Num: 0, Den: 1}) || e != api.OK {
		t.Error(beam, x, e)
	}
	l.Beams[1].Length = 30000 // a greater rise on a longer beam
	l.Joints[2].Up = 50
	l.Joints[3].Up = 50
	l.Joints[4].Up = 50
	if beam, x, e := line.SteepestOf(l); beam != 0 || x != (api.Frac{Num: -2, Den: 1}) || e != api.OK {
		t.Error(beam, x, e)
	}
}

// P1.2
func TestBends(t *testing.T) {
	l := bending()
	for joint, want := range []api.Frac{{}, {Num: 20, Den: 1}, {Num: 180, Den: 1}, {Num: -670, Den: 3}} {
		if joint == 0 {
			continue
		}
		if x, e := line.BendAt(l, joint); x != want || e != api.OK {
			t.Error(joint, x, e)
		}
	}
	for _, joint := range []int{math.MinInt, -1, 0, 4, 5, math.MaxInt} {
		if x, e := line.BendAt(l, joint); x != (api.Frac{}) || e != api.ErrMissing {
			t.Error(joint, x, e)
		}
	}
	if x, e := line.BendAt(straight(1), 1); x != (api.Frac{}) || e != api.ErrMissing {
		t.Error(x, e)
	}
	if x, e := line.BendAt(straight(2), 1); x != (api.Frac{Num: 0, Den: 1}) || e != api.OK {
		t.Error(x, e)
	}
}

// P1.2: a bend is told if both parts are at most MaxPart in size, and otherwise ErrLarge.
func TestBendsThatAreLarge(t *testing.T) {
	seen := map[api.Errno]int{}
	eachLine(t, 20000, func(r *rand.Rand, l api.LineLine) {
		for joint := 1; joint < len(l.Beams); joint++ {
			want := new(big.Rat).Mul(rat(1000, 1), slopeChange(l, joint))
			num, den := new(big.Int).Abs(want.Num()).Int64(), want.Denom().Int64()
			small := num <= api.MaxPart && den <= api.MaxPart
			x, e := line.BendAt(l, joint)
			seen[e]++
			if small && (e != api.OK || !isLowest(x) || ratOf(x).Cmp(want) != 0) || !small && (e != api.ErrLarge || x != api.Frac{}) {
				t.Error(l, joint, x, e, want)
			}
		}
	})
	if seen[api.OK] == 0 || seen[api.ErrLarge] == 0 {
		t.Error("one kind is not tried", seen)
	}
}

// P1.2, R7: just at MaxPart, and beyond it, on both sides.
func TestBendsAtMaxPart(t *testing.T) {
	for _, x := range []struct {
		first, last int
		bend        api.Frac
		want        api.Errno
	}{
		{3271, -3237, api.Frac{Num: 1000000000, Den: 899160187}, api.OK},
		{8269, -8234, api.Frac{}, api.ErrLarge},
		{-3271, 3237, api.Frac{Num: -1000000000, Den: 899160187}, api.OK},
		{-8269, 8234, api.Frac{}, api.ErrLarge},
	} {
		l := straight(2)
		l.Beams[0].Length, l.Beams[1].Length = 29989, 29983 // both are primes
		l.Joints[0].Across, l.Joints[2].Across = x.first, x.last
		if bend, e := line.BendAt(l, 1); bend != x.bend || e != x.want {
			t.Error(x, bend, e)
		}
	}
}

// slopeChange is b of the chapter.
func slopeChange(l api.LineLine, joint int) *big.Rat {
	slope := func(beam int) *big.Rat {
		return rat(l.Joints[beam+1].Across-l.Joints[beam].Across, l.Beams[beam].Length)
	}
	return new(big.Rat).Sub(slope(joint), slope(joint-1))
}

// isPermitted tells whether the square s is permitted, word by word as the chapter has it; allowed is side and c together.
func isPermitted(l api.LineLine, side, joint, s int) (permitted bool, allowed *big.Rat) {
	b := slopeChange(l, joint)
	m := rat(l.Beams[joint-1].Length+l.Beams[joint].Length, 2)
	c := new(big.Rat).Mul(rat(l.Beams[joint-1].Cant+l.Beams[joint].Cant, 2000), rat(api.LineFall, 1))
	if b.Sign() < 0 {
		c.Neg(c)
	}
	allowed = new(big.Rat).Add(rat(side, 1), c)
	sideways := new(big.Rat).Mul(rat(s, 1), new(big.Rat).Abs(b))
	return sideways.Quo(sideways, m).Cmp(allowed) <= 0, allowed
}

// P1.2
func TestLimits(t *testing.T) {
	l := short()
	for _, x := range []struct{ side, want int }{{1000, 745250000}, {0, 245250000}, {5000, 2745250000}} {
		if n, e := line.LimitAt(l, x.side, 1); n != x.want || e != api.OK {
			t.Error(x, n, e)
		}
	}
	l.Beams[1].Cant = -100
	for _, x := range []struct{ side, want int }{{1000, 254750000}, {0, 0}, {490, 0}, {491, 250000}, {5000, 2254750000}} {
		if n, e := line.LimitAt(l, x.side, 1); n != x.want || e != api.OK {
			t.Error(x, n, e)
		}
	}
	l.Joints[2].Across = -200 // now this cant helps
	if n, e := line.LimitAt(l, 1000, 1); n != 745250000 || e != api.OK {
		t.Error(n, e)
	}
	l.Joints[2].Across = 0 // no bend: the cant does not count
	for _, cant := range []int{-300, 0, 300} {
		l.Beams[0].Cant, l.Beams[1].Cant = cant, cant
		if n, e := line.LimitAt(l, 0, 1); n != api.MaxSquare || e != api.OK {
			t.Error(cant, n, e)
		}
	}
	if got, e := line.LimitsOf(bending(), 1000); !slices.Equal(got, []int{745250000, 580555, 69402985}) || e != api.OK {
		t.Error(got, e)
	}
	if got, e := line.LimitsOf(straight(1), 300); len(got) != 0 || e != api.OK {
		t.Error(got, e)
	}
}

// P1.2: the least bends of the longest beams would have limits beyond MaxSquare, and beyond 64 bits on the way.
func TestLimitsAtMost(t *testing.T) {
	l := straight(2)
	l.Beams[0] = api.LineBeam{Length: 30000, Cant: 300}
	l.Beams[1] = api.LineBeam{Length: 30000, Cant: 300}
	l.Joints[2].Across = 1
	if n, e := line.LimitAt(l, 5000, 1); n != api.MaxSquare || e != api.OK {
		t.Error(n, e)
	}
	l.Joints[2].Across = -1
	if n, e := line.LimitAt(l, 5000, 1); n != api.MaxSquare || e != api.OK {
		t.Error(n, e) // 5000 and -2943: 2057 30000 30000
	}
	l.Joints[2].Across = -93
	if n, e := line.LimitAt(l, 5000, 1); n != 19906451612 || e != api.OK {
		t.Error(n, e)
	}
	l.Joints[2].Across = -92
	if n, e := line.LimitAt(l, 5000, 1); n != api.MaxSquare || e != api.OK {
		t.Error(n, e)
	}
	if n, e := line.LimitAt(l, 2942, 1); n != 0 || e != api.OK {
		t.Error(n, e)
	}
	if n, e := line.LimitAt(l, 2943, 1); n != 0 || e != api.OK {
		t.Error(n, e)
	}
	if n, e := line.LimitAt(l, 2944, 1); n != 9782608 || e != api.OK {
		t.Error(n, e)
	}
}

// P1.2
func TestErrorsOfLimits(t *testing.T) {
	for _, side := range []int{-1, 5001, math.MinInt, math.MaxInt} {
		for _, joint := range []int{1, 7} {
			if n, e := line.LimitAt(short(), side, joint); n != 0 || e != api.ErrRange {
				t.Error(side, n, e)
			}
		}
		if l, e := line.LimitsOf(short(), side); len(l) != 0 || e != api.ErrRange {
			t.Error(side, l, e)
		}
	}
	for _, joint := range []int{-1, 0, 2, 3, math.MinInt, math.MaxInt} {
		if n, e := line.LimitAt(short(), 0, joint); n != 0 || e != api.ErrMissing {
			t.Error(joint, n, e)
		}
	}
}

// P1.2, P1.11: a limit is permitted, one more is not, unless the limit is MaxSquare; LimitsOf has all of them.
func TestLimitsArePermitted(t *testing.T) {
	kinds := map[string]int{}
	for _, across := range []int{3, 200, 20000} {
		eachLine(t, across, func(r *rand.Rand, l api.LineLine) {
			side := oneOf(r, 0, api.MaxLineSide)
			all, e := line.LimitsOf(l, side)
			if e != api.OK || len(all) != len(l.Beams)-1 {
				t.Fatal(all, e)
			}
			for joint := 1; joint < len(l.Beams); joint++ {
				s, e := line.LimitAt(l, side, joint)
				if e != api.OK || all[joint-1] != s || s < 0 || s > api.MaxSquare {
					t.Fatal(l, joint, s, e)
				}
				kinds[checkLimit(t, l, side, joint, s)]++
			}
		})
	}
	for _, kind := range []string{"no bend", "below 0", "most", "between"} {
		if kinds[kind] == 0 {
			t.Error("not tried:", kind)
		}
	}
}

func checkLimit(t *testing.T, l api.LineLine, side, joint, s int) string {
	t.Helper()
	permitted, allowed := isPermitted(l, side, joint, s)
	switch {
	case slopeChange(l, joint).Sign() == 0:
		if s != api.MaxSquare {
			t.Error(l, side, joint, s)
		}
		return "no bend"
	case allowed.Sign() < 0:
		if s != 0 {
			t.Error(l, side, joint, s)
		}
		return "below 0"
	}
	if !permitted {
		t.Error(l, side, joint, s)
	}
	if s == api.MaxSquare {
		return "most"
	}
	if next, _ := isPermitted(l, side, joint, s+1); next {
		t.Error(l, side, joint, s)
	}
	return "between"
}

// P1.11: with a greater side no limit is less.
func TestGreaterSide(t *testing.T) {
	eachLine(t, 300, func(r *rand.Rand, l api.LineLine) {
		var last []int
		for side := 0; side <= api.MaxLineSide; side += 250 {
			now, e := line.LimitsOf(l, side)
			if e != api.OK {
				t.Fatal(e)
			}
			for i := range last {
				if now[i] < last[i] {
					t.Error(l, side, now, last)
				}
			}
			last = now
		}
	})
}

// P1.8: a reversed line has the opposite gradients, in the opposite order, and the same limits in the opposite order.
func TestTurnedRoundGradientsAndLimits(t *testing.T) {
	eachLine(t, 300, func(r *rand.Rand, l api.LineLine) {
		back, e := line.Reversed(l)
		if e != api.OK {
			t.Fatal(e)
		}
		for beam := range l.Beams {
			x, e1 := line.GradientOf(l, beam)
			y, e2 := line.GradientOf(back, len(l.Beams)-1-beam)
			if e1 != api.OK || e2 != api.OK || y != (api.Frac{Num: -x.Num, Den: x.Den}) {
				t.Error(l, beam, x, y, e1, e2)
			}
		}
		side := oneOf(r, 0, api.MaxLineSide)
		there, e1 := line.LimitsOf(l, side)
		here, e2 := line.LimitsOf(back, side)
		slices.Reverse(here)
		if e1 != api.OK || e2 != api.OK || !slices.Equal(there, here) {
			t.Error(l, there, here, e1, e2)
		}
	})
}
