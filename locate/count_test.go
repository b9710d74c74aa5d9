package locate_test

import (
	"fmt"
	"math/rand"
	"slices"
	"testing"

	"guideway/api"
	"guideway/locate"
)

// P4.5
func TestJoined(t *testing.T) {
	for _, c := range []struct {
		l    []api.LocateRest
		want api.LocateRest
	}{
		{[]api.LocateRest{{Modulus: 4, Rest: 2}, {Modulus: 6, Rest: 4}}, api.LocateRest{Modulus: 12, Rest: 10}},
		{[]api.LocateRest{{Modulus: 6, Rest: 4}, {Modulus: 4, Rest: 2}}, api.LocateRest{Modulus: 12, Rest: 10}},
		{[]api.LocateRest{{Modulus: 5, Rest: 3}}, api.LocateRest{Modulus: 5, Rest: 3}},
		{[]api.LocateRest{{Modulus: 1}}, api.LocateRest{Modulus: 1}},
		{[]api.LocateRest{{Modulus: 1}, {Modulus: 7, Rest: 6}, {Modulus: 1}}, api.LocateRest{Modulus: 7, Rest: 6}},
		{[]api.LocateRest{{Modulus: 8, Rest: 5}, {Modulus: 4, Rest: 1}}, api.LocateRest{Modulus: 8, Rest: 5}},
		{[]api.LocateRest{{Modulus: 1000, Rest: 999}, {Modulus: 999, Rest: 998}, {Modulus: 1000, Rest: 999}},
			api.LocateRest{Modulus: 999000, Rest: 998999}},
		{[]api.LocateRest{{Modulus: 2, Rest: 1}, {Modulus: 3, Rest: 2}, {Modulus: 5, Rest: 4}, {Modulus: 7, Rest: 6}, {Modulus: 11, Rest: 10}, {Modulus: 13, Rest: 12}},
			api.LocateRest{Modulus: 30030, Rest: 30029}},
		{[]api.LocateRest{{Modulus: 1000}, {Modulus: 999}, {Modulus: 1}, {Modulus: 7}, {Modulus: 11}, {Modulus: 13}},
			api.LocateRest{Modulus: 999999000}}, // 999 1000 1001
		{[]api.LocateRest{{Modulus: 1000, Rest: 999}, {Modulus: 999, Rest: 998}, {Modulus: 7, Rest: 6}, {Modulus: 11, Rest: 10}, {Modulus: 13, Rest: 12}},
			api.LocateRest{Modulus: 999999000, Rest: 999998999}},
		{[]api.LocateRest{{Modulus: 512}, {Modulus: 625}, {Modulus: 1000}}, api.LocateRest{Modulus: 320000}},
		// the greatest multiple that is not too large
		{[]api.LocateRest{{Modulus: 685, Rest: 684}, {Modulus: 909, Rest: 908}, {Modulus: 803, Rest: 802}, {Modulus: 2, Rest: 1}},
			api.LocateRest{Modulus: 999999990, Rest: 999999989}},
		{[]api.LocateRest{{Modulus: 999, Rest: 998}, {Modulus: 997, Rest: 996}, {Modulus: 7, Rest: 6}, {Modulus: 11, Rest: 10}, {Modulus: 13, Rest: 12}},
			api.LocateRest{Modulus: 996999003, Rest: 996999002}},
	} {
		before := slices.Clone(c.l)
		if x, e := locate.Joined(c.l); x != c.want || e != api.OK {
			t.Error(c, x, e)
		}
		if !slices.Equal(before, c.l) {
			t.Error("changed", c)
		}
	}
}

// P4.5
func TestJoinedErrors(t *testing.T) {
	primes := []api.LocateRest{{Modulus: 997}, {Modulus: 991}, {Modulus: 983}, {Modulus: 977}, {Modulus: 971}, {Modulus: 967}}
	for _, c := range []struct {
		name string
		l    []api.LocateRest
		want api.Errno
	}{
		{"none", nil, api.ErrShape},
		{"empty", []api.LocateRest{}, api.ErrShape},
		{"7", slices.Repeat([]api.LocateRest{{Modulus: 2}}, 7), api.ErrLarge},
		{"7, wrong", make([]api.LocateRest, 7), api.ErrLarge},
		{"no number", []api.LocateRest{{Modulus: 4, Rest: 1}, {Modulus: 6, Rest: 2}}, api.ErrNone},
		{"no number, one modulus", []api.LocateRest{{Modulus: 4, Rest: 1}, {Modulus: 4, Rest: 2}}, api.ErrNone},
		{"no number, far", []api.LocateRest{{Modulus: 10, Rest: 1}, {Modulus: 7}, {Modulus: 15, Rest: 2}}, api.ErrNone},
		{"primes", primes, api.ErrLarge},
		{"1000000027", []api.LocateRest{{Modulus: 283}, {Modulus: 271}, {Modulus: 767}, {Modulus: 17}}, api.ErrLarge},
		{"large, no number", append([]api.LocateRest{{Modulus: 4, Rest: 1}, {Modulus: 4, Rest: 2}}, primes[:4]...), api.ErrLarge},
		{"wrong, large", append(slices.Clone(primes[:5]), api.LocateRest{Modulus: 1, Rest: 1}), api.ErrRange},
		{"wrong, no number", []api.LocateRest{{Modulus: 4, Rest: 1}, {Modulus: 6, Rest: 2}, {}}, api.ErrRange},
	} {
		x, e := locate.Joined(c.l)
		refused(t, c.name, x, e, c.want)
	}
	for _, n := range outside(1, 1000) {
		x, e := locate.Joined([]api.LocateRest{{Modulus: 3, Rest: 1}, {Modulus: n}})
		refused(t, fmt.Sprint("modulus", n), x, e, api.ErrRange)
	}
	for _, n := range outside(0, 4) {
		x, e := locate.Joined([]api.LocateRest{{Modulus: 5, Rest: n}, {Modulus: 3, Rest: 1}})
		refused(t, fmt.Sprint("rest", n), x, e, api.ErrRange)
	}
}

// P4.5, by the definition
func TestJoinedHasAll(t *testing.T) {
	found := 0
	eachTime(func(r *rand.Rand) {
		var l []api.LocateRest
		number := r.Intn(30030)
		multiple := 1
		for range between(r, 1, 6) {
			modulus := between(r, 1, 12)
			rest := number % modulus
			if r.Intn(8) == 0 {
				rest = r.Intn(modulus)
			}
			l = append(l, api.LocateRest{Modulus: modulus, Rest: rest})
			step := multiple
			for multiple%modulus != 0 {
				multiple += step
			}
		}
		x, e := locate.Joined(l)
		for number := range multiple {
			isOther := func(x api.LocateRest) bool { return number%x.Modulus != x.Rest }
			if !slices.ContainsFunc(l, isOther) {
				if x != (api.LocateRest{Modulus: multiple, Rest: number}) || e != api.OK {
					t.Fatal(l, x, e)
				}
				found++
				return
			}
		}
		refused(t, fmt.Sprint(l), x, e, api.ErrNone)
	})
	if found < 100 || found > 900 {
		t.Error(found)
	}
}

// P4.5
func TestCounted(t *testing.T) {
	for _, c := range []struct {
		states []int
		want   api.LocateSteps
	}{
		{nil, api.LocateSteps{}},
		{[]int{}, api.LocateSteps{}},
		{[]int{3}, api.LocateSteps{}},
		{[]int{0, 1, 3, 1, 2}, api.LocateSteps{Steps: 1, Skips: 1}},
		{[]int{0, 2, 3, 1, 0, 0}, api.LocateSteps{Steps: -4}},
		{[]int{0, 1, 3, 2, 0}, api.LocateSteps{Steps: 4}},
		{[]int{2, 2, 2}, api.LocateSteps{}},
		{[]int{0, 3, 0, 1, 2, 1}, api.LocateSteps{Steps: 1, Skips: 4}},
		{slices.Repeat([]int{0, 1, 3, 2}, 50), api.LocateSteps{Steps: 199}},
		{slices.Repeat([]int{2, 3, 1, 0}, 50), api.LocateSteps{Steps: -199}},
		{slices.Repeat([]int{0, 3}, 100), api.LocateSteps{Skips: 199}},
	} {
		before := slices.Clone(c.states)
		if x, e := locate.Counted(c.states); x != c.want || e != api.OK {
			t.Error(c, x, e)
		}
		if !slices.Equal(before, c.states) {
			t.Error("changed", c)
		}
	}
	for name, states := range map[string][]int{"201": make([]int, 201), "201, wrong": slices.Repeat([]int{4}, 201)} {
		x, e := locate.Counted(states)
		refused(t, name, x, e, api.ErrLarge)
	}
	for _, state := range outside(0, 3) {
		for _, states := range [][]int{{state}, {0, state}, {0, 1, state, 2}, {state, 0}} {
			x, e := locate.Counted(states)
			refused(t, fmt.Sprint(states), x, e, api.ErrRange)
		}
	}
}

// P4.5: each step by its definition, for which forward is 0, 1, 3, 2, and 0 again.
func TestSteps(t *testing.T) {
	forward := []int{0, 1, 3, 2}
	for i, state := range forward {
		for k, want := range []api.LocateSteps{{}, {Steps: 1}, {Skips: 1}, {Steps: -1}} {
			next := forward[(i+k)%4]
			if x, e := locate.Counted([]int{state, next}); x != want || e != api.OK {
				t.Error(state, next, x, e)
			}
		}
	}
}

// P4.11
func TestStepsAreAdded(t *testing.T) {
	eachTime(func(r *rand.Rand) {
		states := someNumbers(r, oneOf(r, 1, 200), 3)
		cut := r.Intn(len(states))
		all, e := locate.Counted(states)
		ahead, e2 := locate.Counted(states[:cut+1])
		behind, e3 := locate.Counted(states[cut:])
		if all.Steps != ahead.Steps+behind.Steps || all.Skips != ahead.Skips+behind.Skips || e != api.OK || e2 != api.OK || e3 != api.OK {
			t.Fatal(states, cut, all, ahead, behind)
		}
		back := slices.Clone(states)
		slices.Reverse(back)
		if other, e := locate.Counted(back); other.Steps != -all.Steps || other.Skips != all.Skips || e != api.OK {
			t.Fatal(states, all, other)
		}
	})
}
