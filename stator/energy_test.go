package stator_test

import (
	"fmt"
	"math"
	"math/rand"
	"slices"
	"testing"

	"guideway/api"
	"guideway/stator"
)

// P3.7
func TestPowerOf(t *testing.T) {
	for _, c := range []struct {
		voltage, current [3]int
		want             int
	}{
		{[3]int{3, 0, 0}, [3]int{2, -1, -1}, 6},
		{[3]int{1, 2, 3}, [3]int{10, 100, 1000}, 3210},
		{[3]int{1, 2, 3}, [3]int{-3, 0, 1}, 0},
		{[3]int{0, 0, 5}, [3]int{7, 7, -2}, -10},
		{[3]int{}, [3]int{1, 2, 3}, 0},
		{[3]int{100000, -100000, 100000}, [3]int{100000, -100000, 100000}, 30000000000},
		{[3]int{100000, 100000, 100000}, [3]int{-100000, -100000, -100000}, -30000000000},
	} {
		if n, e := stator.PowerOf(c.voltage, c.current); n != c.want || e != api.OK {
			t.Error(c, n, e)
		}
	}
	for _, x := range wrongPhases() {
		n, e := stator.PowerOf(x, [3]int{1, 1, 1})
		refused(t, fmt.Sprint("voltage", x), n, e, api.ErrRange)
		n, e = stator.PowerOf([3]int{1, 1, 1}, x)
		refused(t, fmt.Sprint("current", x), n, e, api.ErrRange)
	}
}

// exampleStep is the step of the chapter's examples.
func exampleStep() api.StatorStep {
	return api.StatorStep{Voltage: [3]int{3, 0, 0}, Current: [3]int{2, -1, -1}, Ohm: 1}
}

// P3.7
func TestBookOf(t *testing.T) {
	full := api.StatorStep{
		Voltage: [3]int{100000, 100000, 100000}, Current: [3]int{-100000, -100000, -100000}, Ohm: 1000,
	}
	drives := api.StatorStep{Voltage: [3]int{10, 20, 30}, Current: [3]int{1, 2, 3}, Ohm: 2} // 140, 28
	free := exampleStep()
	free.Ohm = 0
	for _, c := range []struct {
		l    []api.StatorStep
		want api.StatorBook
	}{
		{nil, api.StatorBook{}},
		{[]api.StatorStep{}, api.StatorBook{}},
		{[]api.StatorStep{exampleStep()}, api.StatorBook{Fed: 6, Lost: 6}},
		{[]api.StatorStep{free}, api.StatorBook{Fed: 6, Given: 6}},
		{[]api.StatorStep{drives}, api.StatorBook{Fed: 140, Lost: 28, Given: 112}},
		{[]api.StatorStep{exampleStep(), drives, free}, api.StatorBook{Fed: 152, Lost: 34, Given: 118}},
		{[]api.StatorStep{{Current: [3]int{1, 1, 0}, Ohm: 7}}, api.StatorBook{Lost: 14, Given: -14}},
		{[]api.StatorStep{{Voltage: [3]int{-2}, Current: [3]int{5}, Ohm: 3}}, api.StatorBook{Fed: -10, Lost: 75, Given: -85}},
		{slices.Repeat([]api.StatorStep{full}, 60), api.StatorBook{
			Fed: -1800000000000, Lost: 1800000000000000, Given: -1801800000000000,
		}},
	} {
		before := slices.Clone(c.l)
		if b, e := stator.BookOf(c.l); b != c.want || e != api.OK {
			t.Error(c, b, e)
		}
		if !slices.Equal(before, c.l) {
			t.Error("changed", c)
		}
	}
}

// P3.7
func TestBookErrors(t *testing.T) {
	wrong := exampleStep()
	wrong.Ohm = -1
	for name, l := range map[string][]api.StatorStep{
		"61":        make([]api.StatorStep, 61),
		"61, wrong": slices.Repeat([]api.StatorStep{wrong}, 61),
	} {
		b, e := stator.BookOf(l)
		refused(t, name, b, e, api.ErrLarge)
	}
	var steps []api.StatorStep
	for _, ohm := range []int{-1, 1001, math.MaxInt, math.MinInt} {
		s := exampleStep()
		s.Ohm = ohm
		steps = append(steps, s)
	}
	for _, x := range wrongPhases() {
		s, other := exampleStep(), exampleStep()
		s.Voltage, other.Current = x, x
		steps = append(steps, s, other)
	}
	for _, s := range steps {
		for _, l := range [][]api.StatorStep{{s}, {exampleStep(), s}, {s, exampleStep()}} {
			b, e := stator.BookOf(l)
			refused(t, fmt.Sprint(l), b, e, api.ErrRange)
		}
	}
}

// P3.16
func TestPowerOfVectors(t *testing.T) {
	eachTime(func(r *rand.Rand) {
		voltage, current := somePhases(r), [3]int{oneOf(r, -50000, 50000), oneOf(r, -50000, 50000)}
		current[2] = -current[0] - current[1]
		power, e := stator.PowerOf(voltage, current)
		v, e2 := stator.VectorOf(voltage)
		i, e3 := stator.VectorOf(current)
		if z := overFlux(v, i); 3*power != 2*z.A-z.B || e != api.OK || e2 != api.OK || e3 != api.OK {
			t.Fatal(voltage, current, power, z, e, e2, e3)
		}
	})
}

// P3.16, and P3.7 by the definition
func TestBooksAddUp(t *testing.T) {
	eachTime(func(r *rand.Rand) {
		var l []api.StatorStep
		var want api.StatorBook
		for range between(r, 0, api.MaxStatorRows) {
			s := api.StatorStep{Voltage: somePhases(r), Current: somePhases(r), Ohm: oneOf(r, 0, api.MaxStatorOhm)}
			l = append(l, s)
			for phase, current := range s.Current {
				want.Fed += s.Voltage[phase] * current
				want.Lost += current * current * s.Ohm
			}
		}
		b, e := stator.BookOf(l)
		if b.Fed != want.Fed || b.Lost != want.Lost || b.Fed != b.Lost+b.Given || e != api.OK {
			t.Fatal(l, b, e)
		}
	})
}
