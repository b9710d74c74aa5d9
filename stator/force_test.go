package stator_test

import (
	"fmt"
	"math"
	"math/cmplx"
	"math/rand"
	"slices"
	"testing"

	"guideway/api"
	"guideway/stator"
)

// P3.2
func TestForceAndMargin(t *testing.T) {
	one := api.Third{A: 1}
	for _, c := range []struct {
		current, flux api.Third
		force, margin int
	}{
		{api.Third{B: 1}, one, 1, api.StatorClose},
		{api.Third{A: 1, B: 1}, one, 1, api.StatorClose},
		{api.Third{A: 1, B: 2}, one, 2, api.StatorClose}, // a quarter of a turn
		{api.Third{A: 3, B: 2}, one, 2, api.StatorSafe},
		{api.Third{A: 2, B: 1}, one, 1, api.StatorSafe},
		{api.Third{A: -1, B: 1}, one, 1, api.StatorSafe},
		{api.Third{A: 5, B: 2}, one, 2, api.StatorSlip},
		{api.Third{A: 3, B: 1}, one, 1, api.StatorSlip},
		{api.Third{A: -2, B: 1}, one, 1, api.StatorSlip},
		{one, one, 0, api.StatorSlip},
		{api.Third{A: -7}, one, 0, api.StatorSlip},
		{api.Third{}, one, 0, api.StatorSlip},
		{one, api.Third{}, 0, api.StatorSlip},
		{api.Third{B: -1}, one, -1, api.StatorSlip},
		{api.Third{A: -1, B: -2}, one, -2, api.StatorSlip},
		// times the conjugate of w, -1 - w
		{one, api.Third{B: 1}, -1, api.StatorSlip},
		{api.Third{A: -1}, api.Third{B: 1}, 1, api.StatorClose},
		{api.Third{A: 2, B: 5}, api.Third{A: 3, B: -4}, 23, api.StatorSafe}, // p -6, 2 p - q -35
		{api.Third{A: 100000, B: 100000}, api.Third{A: 100000, B: -100000}, 20000000000, api.StatorClose},
		{api.Third{A: 100000, B: -100000}, api.Third{A: 100000, B: 100000}, -20000000000, api.StatorSlip},
		// by one more, or less, than the bounds: q is 99999, 2 p - q 99999, 100001; 299997, 299999
		{api.Third{A: 99999, B: 99999}, one, 99999, api.StatorClose},
		{api.Third{A: 100000, B: 99999}, one, 99999, api.StatorSafe},
		{api.Third{A: 66666, B: 33333}, one, 33333, api.StatorSafe},
		{api.Third{A: 66667, B: 33333}, one, 33333, api.StatorSlip},
	} {
		n, e := stator.ForceOf(c.current, c.flux)
		m, f := stator.MarginOf(c.current, c.flux)
		if n != c.force || m != c.margin || e != api.OK || f != api.OK {
			t.Error(c, n, m, e, f)
		}
	}
}

// P3.2
func TestForceErrors(t *testing.T) {
	for _, v := range wrongVectors() {
		for _, both := range [][2]api.Third{{v, {A: 1}}, {{A: 1}, v}, {v, v}} {
			n, e := stator.ForceOf(both[0], both[1])
			refused(t, fmt.Sprint(both), n, e, api.ErrRange)
			m, e := stator.MarginOf(both[0], both[1])
			refused(t, fmt.Sprint(both), m, e, api.ErrRange)
		}
	}
}

// P3.2: the margin tells how many degrees the angle is away from a quarter of a turn.
func TestMarginIsAngle(t *testing.T) {
	found := map[int]int{}
	eachTime(func(r *rand.Rand) {
		current, flux := someVector(r, 1000), someVector(r, 1000)
		margin, e := stator.MarginOf(current, flux)
		if e != api.OK {
			t.Fatal(current, flux, e)
		}
		z := point(current) * cmplx.Conj(point(flux))
		off := math.Abs(cmplx.Phase(z)-math.Pi/2) * 180 / math.Pi
		if z == 0 || math.Abs(off-30) < 1e-6 || math.Abs(off-60) < 1e-6 {
			return
		}
		want := api.StatorSlip
		switch {
		case off < 30:
			want = api.StatorClose
		case off < 60:
			want = api.StatorSafe
		}
		found[want]++
		if margin != want {
			t.Fatal(current, flux, margin, off)
		}
	})
	if found[api.StatorClose] < 50 || found[api.StatorSafe] < 50 || found[api.StatorSlip] < 50 {
		t.Error(found)
	}
}

// P3.10
func TestForcesTurnAlong(t *testing.T) {
	eachTime(func(r *rand.Rand) {
		most := []int{1, 3, 20, 50000}[r.Intn(4)]
		current, flux, sixths := someVector(r, most), someVector(r, most), between(r, -12, 12)
		x, y := turnedBy(t, current, sixths), turnedBy(t, flux, sixths)
		force := forceOf(t, current, flux)
		if forceOf(t, x, y) != force || forceOf(t, flux, current) != -force {
			t.Fatal(current, flux, sixths)
		}
		margin, _ := stator.MarginOf(current, flux)
		if other, e := stator.MarginOf(x, y); other != margin || e != api.OK {
			t.Fatal(current, flux, sixths, margin, other, e)
		}
	})
}

// P3.11, and P3.2 by its definition
func TestForceIsBounded(t *testing.T) {
	eachTime(func(r *rand.Rand) {
		most := []int{1, 3, 20, 10000}[r.Intn(4)] // so that four times both squares are an int
		current, flux := someVector(r, most), someVector(r, most)
		force := forceOf(t, current, flux)
		if force != overFlux(current, flux).B {
			t.Fatal(current, flux, force)
		}
		margin, _ := stator.MarginOf(current, flux)
		n := squareOf(current) * squareOf(flux)
		least := map[int]int{api.StatorSlip: 0, api.StatorSafe: n, api.StatorClose: 3 * n}[margin]
		if 3*force*force > 4*n || 3*force*force < least {
			t.Fatal(current, flux, force, margin)
		}
		if margin != api.StatorSlip && force <= 0 {
			t.Fatal(current, flux, force, margin)
		}
	})
}

// P3.4
func TestEven(t *testing.T) {
	one := api.Third{A: 1}
	for _, c := range []struct {
		currents []api.Third
		flux     api.Third
		want     bool
	}{
		{[]api.Third{{B: 1}, {B: 2}}, one, false},
		{[]api.Third{{B: 1}, {A: 1, B: 1}, {A: -70, B: 1}}, one, true},
		{[]api.Third{{B: 1}, {A: 1, B: 1}, {B: -1}}, one, false},
		{[]api.Third{{B: 1}, {B: 2}, {B: 2}}, one, false},
		{[]api.Third{{B: 1}, {B: 2}, {B: 1}}, one, false},
		{[]api.Third{{B: 5}}, one, true},
		{[]api.Third{{B: 1}, {B: 2}}, api.Third{}, true},
		{[]api.Third{{}, {A: 3, B: 4}, {A: -6, B: -8}}, api.Third{A: 3, B: 4}, true},
		{[]api.Third{{}, {A: 3, B: 4}, {A: -6, B: -7}}, api.Third{A: 3, B: 4}, false},
		{make([]api.Third, 12), one, true},
		{append(make([]api.Third, 11), api.Third{B: 1}), one, false},
	} {
		before := slices.Clone(c.currents)
		if is, e := stator.Even(c.currents, c.flux); is != c.want || e != api.OK {
			t.Error(c, is, e)
		}
		if !slices.Equal(before, c.currents) {
			t.Error("changed", c)
		}
	}
}

// P3.4
func TestEvenErrors(t *testing.T) {
	one, wrong := api.Third{A: 1}, api.Third{B: 100001}
	for _, c := range []struct {
		name     string
		currents []api.Third
		flux     api.Third
		want     api.Errno
	}{
		{"none", nil, one, api.ErrShape},
		{"empty", []api.Third{}, one, api.ErrShape},
		{"13", make([]api.Third, 13), one, api.ErrLarge},
		{"none ahead of the flux", nil, wrong, api.ErrShape},
		{"13 ahead of the vectors", slices.Repeat([]api.Third{wrong}, 13), wrong, api.ErrLarge},
		{"flux", []api.Third{one}, wrong, api.ErrRange},
	} {
		is, e := stator.Even(c.currents, c.flux)
		refused(t, c.name, is, e, c.want)
	}
	for _, v := range wrongVectors() {
		for _, currents := range [][]api.Third{{v}, {one, v}, {v, one, one}} {
			is, e := stator.Even(currents, one)
			refused(t, fmt.Sprint(currents), is, e, api.ErrRange)
		}
		is, e := stator.Even([]api.Third{one}, v)
		refused(t, fmt.Sprint(v), is, e, api.ErrRange)
	}
}
