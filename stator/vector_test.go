package stator_test

import (
	"fmt"
	"math"
	"math/cmplx"
	"math/rand"
	"testing"

	"guideway/api"
	"guideway/stator"
)

// P3.1
func TestVectorOf(t *testing.T) {
	for _, c := range []struct {
		x    [3]int
		want api.Third
	}{
		{[3]int{2, -1, -1}, api.Third{A: 3}},
		{[3]int{0, 1, 0}, api.Third{B: 1}},
		{[3]int{1, 0, 0}, api.Third{A: 1}},
		{[3]int{0, 0, 1}, api.Third{A: -1, B: -1}},
		{[3]int{}, api.Third{}},
		{[3]int{7, 7, 7}, api.Third{}},
		{[3]int{-100000, -100000, -100000}, api.Third{}},
		{[3]int{3, 5, 11}, api.Third{A: -8, B: -6}},
		{[3]int{100000, 0, -100000}, api.Third{A: 200000, B: 100000}},
		{[3]int{-100000, -100000, 100000}, api.Third{A: -200000, B: -200000}},
	} {
		if v, e := stator.VectorOf(c.x); v != c.want || e != api.OK {
			t.Error(c, v, e)
		}
	}
	for _, x := range wrongPhases() {
		v, e := stator.VectorOf(x)
		refused(t, fmt.Sprint(x), v, e, api.ErrRange)
	}
}

// P3.1
func TestPhasesOf(t *testing.T) {
	for _, c := range []struct {
		v    api.Third
		want [3]int
	}{
		{api.Third{B: 1}, [3]int{-1, 2, -1}},
		{api.Third{A: 1}, [3]int{2, -1, -1}},
		{api.Third{A: -1, B: -1}, [3]int{-1, -1, 2}},
		{api.Third{A: 2, B: 5}, [3]int{-1, 8, -7}},
		{api.Third{}, [3]int{}},
		{api.Third{A: 100000, B: -100000}, [3]int{300000, -300000, 0}},
		{api.Third{A: 100000, B: 100000}, [3]int{100000, 100000, -200000}},
	} {
		if x, e := stator.PhasesOf(c.v); x != c.want || e != api.OK {
			t.Error(c, x, e)
		}
	}
	for _, v := range wrongVectors() {
		x, e := stator.PhasesOf(v)
		refused(t, fmt.Sprint(v), x, e, api.ErrRange)
	}
	eachTime(func(r *rand.Rand) {
		v := someVector(r, 30000) // so that the phases are right
		x, _ := stator.PhasesOf(v)
		if back, e := stator.VectorOf(x); x[0]+x[1]+x[2] != 0 || back != (api.Third{A: 3 * v.A, B: 3 * v.B}) || e != api.OK {
			t.Fatal(v, x, back, e)
		}
	})
}

// P3.1
func TestTurned(t *testing.T) {
	v := api.Third{A: 2, B: 5}
	for _, c := range []struct {
		v      api.Third
		sixths int
		want   api.Third
	}{
		{api.Third{B: 1}, 1, api.Third{A: -1}},
		{api.Third{B: 1}, -1, api.Third{A: 1, B: 1}},
		{v, 0, v},
		{v, 1, api.Third{A: -3, B: 2}},
		{v, 2, api.Third{A: -5, B: -3}},
		{v, 3, api.Third{A: -2, B: -5}},
		{v, 4, api.Third{A: 3, B: -2}},
		{v, 5, api.Third{A: 5, B: 3}},
		{v, -1, api.Third{A: 5, B: 3}},
		{v, -5, api.Third{A: -3, B: 2}},
		{v, 6, v},
		{v, -6, v},
		{v, 13, api.Third{A: -3, B: 2}},
		{v, -13, api.Third{A: 5, B: 3}},
		{v, 1000000, api.Third{A: 3, B: -2}},   // 4 sixths
		{v, -1000000, api.Third{A: -5, B: -3}}, // 4 sixths back
		{api.Third{}, 17, api.Third{}},
		{api.Third{A: 100000, B: -100000}, 1, api.Third{A: 200000, B: 100000}},
	} {
		if got, e := stator.Turned(c.v, c.sixths); got != c.want || e != api.OK {
			t.Error(c, got, e)
		}
	}
	for _, wrong := range wrongVectors() {
		got, e := stator.Turned(wrong, 0)
		refused(t, fmt.Sprint(wrong), got, e, api.ErrRange)
	}
	for _, sixths := range wrongSizes(api.MaxStatorTurns) {
		got, e := stator.Turned(v, sixths)
		refused(t, fmt.Sprint(sixths), got, e, api.ErrRange)
	}
	eachTime(func(r *rand.Rand) {
		v, sixths := someVector(r, someMost(r)), oneOf(r, -api.MaxStatorTurns, api.MaxStatorTurns)
		if got := turnedBy(t, v, sixths); got != product(v, sixth((sixths%6+6)%6)) {
			t.Fatal(v, sixths, got)
		}
	})
}

// P3.1
func TestSizeOf(t *testing.T) {
	for _, c := range []struct {
		v    api.Third
		want api.Range
	}{
		{api.Third{}, api.Range{}},
		{api.Third{A: 1}, api.Range{Lo: 1, Hi: 1}},
		{api.Third{A: 1, B: 1}, api.Range{Lo: 1, Hi: 1}},
		{api.Third{A: 1, B: -1}, api.Range{Lo: 1, Hi: 2}}, // 3
		{api.Third{A: 2, B: 5}, api.Range{Lo: 4, Hi: 5}},  // 19
		{api.Third{A: 8, B: 3}, api.Range{Lo: 7, Hi: 7}},  // 49
		{api.Third{A: -3, B: -8}, api.Range{Lo: 7, Hi: 7}},
		{api.Third{B: -100000}, api.Range{Lo: 100000, Hi: 100000}},
		{api.Third{A: 100000, B: 100000}, api.Range{Lo: 100000, Hi: 100000}},
		{api.Third{A: 100000, B: -100000}, api.Range{Lo: 173205, Hi: 173206}},
		{api.Third{A: 100000, B: 1}, api.Range{Lo: 99999, Hi: 100000}},
	} {
		if size, e := stator.SizeOf(c.v); size != c.want || e != api.OK {
			t.Error(c, size, e)
		}
	}
	for _, v := range wrongVectors() {
		size, e := stator.SizeOf(v)
		refused(t, fmt.Sprint(v), size, e, api.ErrRange)
	}
	eachTime(func(r *rand.Rand) {
		v := someVector(r, someMost(r))
		size, e := stator.SizeOf(v)
		square := squareOf(v)
		isDown := size.Lo*size.Lo <= square && (size.Lo+1)*(size.Lo+1) > square
		isUp := size.Hi*size.Hi >= square && (size.Hi == 0 || (size.Hi-1)*(size.Hi-1) < square)
		if size.Lo < 0 || size.Hi < 0 || !isDown || !isUp || e != api.OK {
			t.Fatal(v, size, e)
		}
	})
}

// P3.1
func TestSectorOf(t *testing.T) {
	for _, c := range []struct {
		v    api.Third
		want int
	}{
		{api.Third{A: 1}, 0},
		{api.Third{A: 1, B: 1}, 1},
		{api.Third{B: 1}, 2},
		{api.Third{A: -1}, 3},
		{api.Third{A: -1, B: -1}, 4},
		{api.Third{B: -1}, 5},
		{api.Third{A: 2, B: 1}, 0},
		{api.Third{A: 1, B: 2}, 1},
		{api.Third{A: -1, B: 1}, 2},
		{api.Third{A: -2, B: -1}, 3},
		{api.Third{A: -1, B: -2}, 4},
		{api.Third{A: 1, B: -1}, 5},
		{api.Third{A: 100000, B: 99999}, 0},
		{api.Third{A: 99999, B: 100000}, 1},
		{api.Third{A: 100000, B: -1}, 5},
	} {
		if sector, e := stator.SectorOf(c.v); sector != c.want || e != api.OK {
			t.Error(c, sector, e)
		}
	}
	sector, e := stator.SectorOf(api.Third{})
	refused(t, "zero", sector, e, api.ErrZero)
	for _, v := range wrongVectors() {
		sector, e := stator.SectorOf(v)
		refused(t, fmt.Sprint(v), sector, e, api.ErrRange)
	}
}

// P3.1: the sector is the sixth of a turn in which the vector lies.
func TestSectorsLie(t *testing.T) {
	for a := -30; a <= 30; a++ {
		for b := -30; b <= 30; b++ {
			v := api.Third{A: a, B: b}
			if v == (api.Third{}) {
				continue
			}
			// A little is added, as the least angle of a sector belongs to it; the angles here differ by more.
			angle := math.Mod(cmplx.Phase(point(v))+2*math.Pi+1e-9, 2*math.Pi)
			if sector, e := stator.SectorOf(v); sector != int(angle/(math.Pi/3)) || e != api.OK {
				t.Fatal(v, sector, e, angle)
			}
		}
	}
}

// P3.9
func TestTurns(t *testing.T) {
	eachTime(func(r *rand.Rand) {
		v := someVector(r, []int{1, 3, 20, 50000}[r.Intn(4)]) // so that it is right when turned, too
		next := turnedBy(t, v, 1)
		around := v
		for range 6 {
			around = turnedBy(t, around, 1)
		}
		if around != v || turnedBy(t, v, 6) != v || turnedBy(t, v, 3) != opposite(v) || turnedBy(t, next, -1) != v {
			t.Fatal(v, next, around)
		}
		size, _ := stator.SizeOf(v)
		if other, e := stator.SizeOf(next); other != size || e != api.OK {
			t.Fatal(v, size, other, e)
		}
		if v == (api.Third{}) {
			return
		}
		sector, _ := stator.SectorOf(v)
		if other, e := stator.SectorOf(next); other != (sector+1)%6 || e != api.OK {
			t.Fatal(v, sector, other, e)
		}
	})
}
