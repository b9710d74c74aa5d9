package levitate_test

import (
	"math"
	"math/big"
	"math/rand"
	"testing"

	"guideway/api"
	"guideway/levitate"
)

func span(lo, hi int) api.Range { return api.Range{Lo: lo, Hi: hi} }

// P2.6: the example, roundings and the limits.
func TestForceOf(t *testing.T) {
	for _, c := range []struct {
		factor             int
		current, gap, want api.Range
	}{
		{1000, span(10, 20), span(5, 10), span(1000, 16000)},
		{1, span(1, 1), span(2, 2), span(0, 1)},
		{1, span(3, 3), span(2, 2), span(2, 3)},
		{7, span(5, 6), span(3, 4), span(10, 28)},
		{7, span(0, 5), span(4, 4), span(0, 11)},
		{1000000000, span(0, 0), span(1, 1), span(0, 0)},
		{1000000000, span(0, 1000), span(1, 3000), span(0, 1000000000000000)},
		{1000000000, span(1000, 1000), span(3000, 3000), span(111111111, 111111112)},
		{1000000000, span(1000, 1000), span(1, 1), span(1000000000000000, 1000000000000000)},
		{1, span(1000, 1000), span(1000, 1000), span(1, 1)},
	} {
		if r, e := levitate.ForceOf(c.factor, c.current, c.gap); r != c.want || e != api.OK {
			t.Error(c, r, e)
		}
	}
}

// P2.6: the errors of a force; all ranges are asked ahead of their orders.
func TestForceErrors(t *testing.T) {
	for _, c := range []struct {
		factor       int
		current, gap api.Range
		want         api.Errno
	}{
		{0, span(1, 2), span(1, 2), api.ErrRange},
		{-1, span(1, 2), span(1, 2), api.ErrRange},
		{1000000001, span(1, 2), span(1, 2), api.ErrRange},
		{math.MinInt, span(1, 2), span(1, 2), api.ErrRange},
		{1, span(-1, 2), span(1, 2), api.ErrRange},
		{1, span(0, 1001), span(1, 2), api.ErrRange},
		{1, span(1001, 0), span(1, 2), api.ErrRange},
		{1, span(2, -1), span(1, 2), api.ErrRange},
		{1, span(1, 2), span(0, 2), api.ErrRange},
		{1, span(1, 2), span(1, 3001), api.ErrRange},
		{1, span(1, 2), span(3001, 1), api.ErrRange},
		{1, span(1, 2), span(2, 0), api.ErrRange},
		{1, span(math.MinInt, math.MaxInt), span(math.MinInt, math.MaxInt), api.ErrRange},
		{1, span(2, 1), span(1, 2), api.ErrOrder},
		{1, span(1, 2), span(2, 1), api.ErrOrder},
		{1, span(2, 1), span(0, 2), api.ErrRange},
		{0, span(2, 1), span(2, 1), api.ErrRange},
	} {
		if r, e := levitate.ForceOf(c.factor, c.current, c.gap); r != (api.Range{}) || e != c.want {
			t.Error(c, r, e)
		}
	}
}

// P2.6
func TestCurrentFor(t *testing.T) {
	for _, c := range []struct {
		factor, load int
		gap          api.Range
		want         int
		err          api.Errno
	}{
		{1000, 2500, span(5, 10), 16, api.OK},
		{1000, 2560, span(5, 10), 16, api.OK},
		{1000, 2561, span(5, 10), 17, api.OK},
		{1000, 2500, span(10, 10), 16, api.OK},
		{1, 0, span(1, 3000), 0, api.OK},
		{1, 1, span(1, 1), 1, api.OK},
		{1, 1, span(1, 1000), 1000, api.OK},
		{1, 1, span(1, 1001), 0, api.ErrNone},
		{1, 1000000, span(1, 1), 1000, api.OK},
		{1, 1000000, span(1, 2), 0, api.ErrNone},
		{1000000000, 1000000, span(3000, 3000), 95, api.OK},
		{9000000, 1000000, span(1, 3000), 1000, api.OK},
		{8999999, 1000000, span(1, 3000), 0, api.ErrNone},
		{0, 1, span(1, 2), 0, api.ErrRange},
		{1000000001, 1, span(1, 2), 0, api.ErrRange},
		{1, -1, span(1, 2), 0, api.ErrRange},
		{1, 1000001, span(1, 2), 0, api.ErrRange},
		{1, 1, span(0, 2), 0, api.ErrRange},
		{1, 1, span(1, 3001), 0, api.ErrRange},
		{1, 1, span(3001, 1), 0, api.ErrRange},
		{math.MaxInt, math.MinInt, span(math.MinInt, math.MaxInt), 0, api.ErrRange},
		{1, 1, span(2, 1), 0, api.ErrOrder},
		{1, 1000001, span(2, 1), 0, api.ErrRange},
		{1, 1000000, span(3000, 2999), 0, api.ErrOrder},
	} {
		if n, e := levitate.CurrentFor(c.factor, c.load, c.gap); n != c.want || e != c.err {
			t.Error(c, n, e)
		}
	}
}

func someSpan(r *rand.Rand, lo, hi int) api.Range {
	least := oneOf(r, lo, hi)
	return span(least, oneOf(r, least, hi))
}

// P2.6, P2.11: forces as the chapter tells them; with a narrower current or gap the force's range is no wider.
func TestForcesAreEnclosed(t *testing.T) {
	r := rand.New(rand.NewSource(1))
	for range 2000 {
		factor := oneOf(r, 1, api.MaxLevitateFactor)
		current, gap := someSpan(r, 0, api.MaxLevitateCurrent), someSpan(r, 1, api.MaxLevitateGap)
		force, e := levitate.ForceOf(factor, current, gap)
		lo := new(big.Int).Div(times(factor, current.Lo, current.Lo), times(gap.Hi, gap.Hi))
		hi := times(-factor, current.Hi, current.Hi)
		hi.Div(hi, times(gap.Lo, gap.Lo)).Neg(hi)
		if e != api.OK || lo.Cmp(bigOf(force.Lo)) != 0 || hi.Cmp(bigOf(force.Hi)) != 0 {
			t.Fatal(factor, current, gap, force, e)
		}
		inner := someSpan(r, current.Lo, current.Hi)
		narrow := someSpan(r, gap.Lo, gap.Hi)
		if less, e := levitate.ForceOf(factor, inner, narrow); e != api.OK || less.Lo < force.Lo || less.Hi > force.Hi {
			t.Fatal(factor, current, gap, force, inner, narrow, less, e)
		}
	}
}

// P2.6, P2.11: the current's force at the greatest gap is at least the load, that of one less is not.
func TestCurrentsCarry(t *testing.T) {
	r := rand.New(rand.NewSource(2))
	count := map[api.Errno]int{}
	for range 2000 {
		factor := oneOf(r, 1, []int{1000, 10000000, api.MaxLevitateFactor}[r.Intn(3)])
		load, gap := oneOf(r, 0, api.MaxLevitateLoad), someSpan(r, 1, api.MaxLevitateGap)
		current, e := levitate.CurrentFor(factor, load, gap)
		count[e]++
		lifts := func(current int) bool {
			return times(factor, current, current).Cmp(times(load, gap.Hi, gap.Hi)) >= 0
		}
		if e == api.ErrNone {
			if current != 0 || lifts(api.MaxLevitateCurrent) {
				t.Fatal(factor, load, gap, current)
			}
			continue
		}
		if e != api.OK || !lifts(current) || current > 0 && lifts(current-1) {
			t.Fatal(factor, load, gap, current, e)
		}
		if force, e := levitate.ForceOf(factor, span(current, current), gap); e != api.OK || force.Lo < load {
			t.Fatal(factor, load, gap, current, force, e)
		}
	}
	if count[api.OK] < 200 || count[api.ErrNone] < 200 {
		t.Error(count)
	}
}
