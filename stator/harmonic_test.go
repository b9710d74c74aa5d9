package stator_test

import (
	"fmt"
	"math/rand"
	"testing"

	"guideway/api"
	"guideway/stator"
)

func someSamples(r *rand.Rand, most int) [6]int {
	var x [6]int
	for n := range x {
		x[n] = oneOf(r, -most, most)
	}
	return x
}

// wrongSamples are samples of which one is too great in size.
func wrongSamples() [][6]int {
	var out [][6]int
	for n := range 6 {
		for _, sample := range wrongSizes(api.MaxStatorPart) {
			var x [6]int
			x[n] = sample
			out = append(out, x)
		}
	}
	return out
}

// P3.5
func TestOrdersOf(t *testing.T) {
	one := api.Third{A: 1}
	most := api.MaxStatorPart
	for _, c := range []struct {
		x    [6]int
		want [6]api.Third
	}{
		{[6]int{}, [6]api.Third{}},
		{[6]int{1}, [6]api.Third{one, one, one, one, one, one}},
		{[6]int{1, 1, 1, 1, 1, 1}, [6]api.Third{{A: 6}}},
		// the powers of a sixth of a turn, backward
		{[6]int{0, 1}, [6]api.Third{{A: 1}, {B: -1}, {A: -1, B: -1}, {A: -1}, {B: 1}, {A: 1, B: 1}}},
		{[6]int{0, 0, 0, 0, 0, 1}, [6]api.Third{{A: 1}, {A: 1, B: 1}, {B: 1}, {A: -1}, {A: -1, B: -1}, {B: -1}}},
		{[6]int{1, -1, 1, -1, 1, -1}, [6]api.Third{3: {A: 6}}},
		{[6]int{most, most, most, most, most, most}, [6]api.Third{{A: 600000}}},
		{[6]int{most, -most, most, -most, most, -most}, [6]api.Third{3: {A: 600000}}},
	} {
		if h, e := stator.OrdersOf(c.x); h != c.want || e != api.OK {
			t.Error(c, h, e)
		}
	}
	for _, x := range wrongSamples() {
		h, e := stator.OrdersOf(x)
		refused(t, fmt.Sprint(x), h, e, api.ErrRange)
	}
}

// P3.5: by the definition
func TestOrdersAreSums(t *testing.T) {
	eachTime(func(r *rand.Rand) {
		x := someSamples(r, someMost(r))
		var want [6]api.Third
		for k := range want {
			for n, sample := range x {
				want[k] = sum(want[k], product(api.Third{A: sample}, sixth((36-k*n)%6)))
			}
		}
		if h, e := stator.OrdersOf(x); h != want || e != api.OK {
			t.Fatal(x, h, e, want)
		}
	})
}

// P3.5
func TestSamplesOf(t *testing.T) {
	for _, c := range []struct {
		name string
		h    [6]api.Third
		x    [6]int
		want api.Errno
	}{
		{"zero", [6]api.Third{}, [6]int{}, api.OK},
		{"even", [6]api.Third{{A: 6}}, [6]int{1, 1, 1, 1, 1, 1}, api.OK},
		{"order 3", [6]api.Third{3: {A: -6}}, [6]int{-1, 1, -1, 1, -1, 1}, api.OK},
		{"greatest", [6]api.Third{{A: 600000}}, [6]int{100000, 100000, 100000, 100000, 100000, 100000}, api.OK},
		{"least", [6]api.Third{3: {A: -600000}}, [6]int{-100000, 100000, -100000, 100000, -100000, 100000}, api.OK},
		{"no sixth", [6]api.Third{{A: 5}}, [6]int{}, api.ErrForm},
		{"no sixth below 0", [6]api.Third{{A: -6}, {}, {}, {A: 3}}, [6]int{}, api.ErrForm},
		{"aside", [6]api.Third{{B: 6}}, [6]int{}, api.ErrForm},
		{"both parts", [6]api.Third{{A: 6, B: 6}}, [6]int{}, api.ErrForm},
		{"one order of two", [6]api.Third{1: {A: 6}}, [6]int{}, api.ErrForm},
		{"the last sample alone", [6]api.Third{{A: 6}, {B: 6}, {A: -6}, {}, {}, {B: -6}}, [6]int{}, api.ErrForm},
		{"a sample above", [6]api.Third{{A: 600000}, {}, {}, {A: 6}}, [6]int{}, api.ErrRange},
		{"a sample below", [6]api.Third{{A: -600000}, {}, {}, {A: 6}}, [6]int{}, api.ErrRange},
		{"form ahead of samples", [6]api.Third{{A: 600000}, {A: 3}, {A: 3}, {A: 6}}, [6]int{}, api.ErrForm},
		{"part ahead of form", [6]api.Third{{A: 5}, {}, {}, {}, {}, {A: 600001}}, [6]int{}, api.ErrRange},
		{"a part above", [6]api.Third{{A: 600006}}, [6]int{}, api.ErrRange},
	} {
		x, e := stator.SamplesOf(c.h)
		if x != c.x || e != c.want {
			t.Error(c.name, x, e)
		}
	}
	for k := range 6 {
		for _, part := range wrongSizes(600000) {
			for _, order := range []api.Third{{A: part}, {B: part}} {
				var h [6]api.Third
				h[k] = order
				x, e := stator.SamplesOf(h)
				refused(t, fmt.Sprint(h), x, e, api.ErrRange)
			}
		}
	}
}

// P3.14
func TestSamplesUndoOrders(t *testing.T) {
	eachTime(func(r *rand.Rand) {
		x := someSamples(r, someMost(r))
		h, e := stator.OrdersOf(x)
		back, e2 := stator.SamplesOf(h)
		if back != x || e != api.OK || e2 != api.OK {
			t.Fatal(x, h, back, e, e2)
		}
		energy, e := stator.EnergyOf(x)
		squares := 0
		for _, order := range h {
			squares += squareOf(order)
		}
		if squares != 6*energy || e != api.OK {
			t.Fatal(x, h, squares, energy, e)
		}
	})
}

// P3.5: what has samples are their orders; else no whole samples have it.
func TestSamplesAreRight(t *testing.T) {
	found, wrong := 0, 0
	eachTime(func(r *rand.Rand) {
		h, _ := stator.OrdersOf(someSamples(r, 10))
		change, k := someVector(r, 2), r.Intn(6)
		unit := []int{1, 3, 6}[r.Intn(3)]
		change = api.Third{A: unit * change.A, B: unit * change.B}
		if r.Intn(3) > 0 { // orders of samples are conjugates of each other
			h[(6-k)%6] = sum(h[(6-k)%6], api.Third{A: change.A - change.B, B: -change.B})
		}
		h[k] = sum(h[k], change)
		x, e := stator.SamplesOf(h)
		if e == api.ErrForm {
			wrong++
			if x != ([6]int{}) || hasSamples(h) {
				t.Fatal(h, x, e)
			}
			return
		}
		found++
		if back, e2 := stator.OrdersOf(x); back != h || e != api.OK || e2 != api.OK {
			t.Fatal(h, x, back, e, e2)
		}
	})
	if found < 20 || wrong < 20 {
		t.Error(found, wrong)
	}
}

// hasSamples tells whether whole samples have these orders: six times a sample is the sum of all orders, the order k
// turned by k n sixths.
func hasSamples(h [6]api.Third) bool {
	for n := range 6 {
		var six api.Third
		for k, order := range h {
			six = sum(six, product(order, sixth(k*n%6)))
		}
		if six.B != 0 || six.A%6 != 0 {
			return false
		}
	}
	return true
}

// P3.14
func TestOppositeSamples(t *testing.T) {
	eachTime(func(r *rand.Rand) {
		x := someSamples(r, someMost(r))
		x[3], x[4], x[5] = -x[0], -x[1], -x[2]
		h, e := stator.OrdersOf(x)
		if h[0] != (api.Third{}) || h[2] != (api.Third{}) || h[4] != (api.Third{}) || e != api.OK {
			t.Fatal(x, h, e)
		}
	})
}

// P3.5
func TestEnergyOf(t *testing.T) {
	most := api.MaxStatorPart
	for _, c := range []struct {
		x    [6]int
		want int
	}{
		{[6]int{}, 0},
		{[6]int{1, 1, 1, 1, 1, 1}, 6},
		{[6]int{1, -2, 3, -4, 5, -6}, 91},
		{[6]int{0, 0, 0, 0, 0, -7}, 49},
		{[6]int{most, -most, most, -most, most, -most}, 60000000000},
	} {
		if n, e := stator.EnergyOf(c.x); n != c.want || e != api.OK {
			t.Error(c, n, e)
		}
	}
	for _, x := range wrongSamples() {
		n, e := stator.EnergyOf(x)
		refused(t, fmt.Sprint(x), n, e, api.ErrRange)
	}
}
