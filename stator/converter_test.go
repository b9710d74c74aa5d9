package stator_test

import (
	"fmt"
	"math"
	"math/rand"
	"slices"
	"testing"

	"guideway/api"
	"guideway/stator"
)

// wrongScales are scales that are not from 1 to MaxStatorPart.
var wrongScales = []int{0, -1, -10, 100001, math.MaxInt, math.MinInt}

// less is a vector less M times that of a state.
func less(t *testing.T, scale int, v api.Third, state int) api.Third {
	t.Helper()
	s, e := stator.StateVector(state)
	if e != api.OK {
		t.Fatal(state, e)
	}
	return api.Third{A: v.A - scale*s.A, B: v.B - scale*s.B}
}

// nearestOf is the first state with the least square, all states being tried.
func nearestOf(t *testing.T, scale int, v api.Third) int {
	t.Helper()
	var squares []int
	for state := range api.StatorStates {
		squares = append(squares, squareOf(less(t, scale, v, state)))
	}
	return slices.Index(squares, slices.Min(squares))
}

// P3.6
func TestStateVector(t *testing.T) {
	for state := range api.StatorStates {
		want, _ := stator.VectorOf([3]int{state / 4 % 2, state / 2 % 2, state % 2})
		if v, e := stator.StateVector(state); v != want || e != api.OK {
			t.Error(state, v, e)
		}
	}
	for state, want := range []api.Third{{}, {A: -1, B: -1}, {B: 1}, {A: -1}, {A: 1}, {B: -1}, {A: 1, B: 1}, {}} {
		if v, e := stator.StateVector(state); v != want || e != api.OK {
			t.Error(state, v, e)
		}
	}
	for _, state := range []int{-1, 8, math.MaxInt, math.MinInt} {
		v, e := stator.StateVector(state)
		refused(t, fmt.Sprint(state), v, e, api.ErrRange)
	}
}

// P3.6
func TestIsNear(t *testing.T) {
	for _, c := range []struct {
		scale int
		v     api.Third
		want  bool
	}{
		{10, api.Third{A: 6, B: 1}, false}, // 11, -4, 7
		{10, api.Third{A: 5, B: 1}, true},  // 9, -3, 6
		{10, api.Third{A: 1, B: 6}, false}, // -4, 11, 7
		{10, api.Third{A: 1, B: 5}, true},
		{10, api.Third{A: 5, B: 5}, true},  // 5, 5, 10
		{10, api.Third{A: 5, B: 6}, false}, // 4, 7, 11
		{10, api.Third{A: -5, B: -6}, false},
		{10, api.Third{A: -5, B: -5}, true},
		{10, api.Third{A: -6, B: -1}, false},
		{10, api.Third{A: -1, B: -6}, false},
		{10, api.Third{A: 5}, true},
		{10, api.Third{A: -5}, true},
		{10, api.Third{A: 3, B: -4}, false}, // 10, -11, 1
		{11, api.Third{A: 3, B: -4}, true},
		{1, api.Third{}, true},
		{1, api.Third{A: 1}, false},
		{100000, api.Third{A: 50000}, true},
		{100000, api.Third{A: 50000, B: -1}, false},
		{100000, api.Third{A: 100000, B: -100000}, false},
	} {
		if is, e := stator.IsNear(c.scale, c.v); is != c.want || e != api.OK {
			t.Error(c, is, e)
		}
	}
	eachTime(func(r *rand.Rand) {
		scale, v := between(r, 1, 12), someVector(r, 8)
		want := sizeOf(2*v.A-v.B) <= scale && sizeOf(2*v.B-v.A) <= scale && sizeOf(v.A+v.B) <= scale
		if is, e := stator.IsNear(scale, v); is != want || e != api.OK {
			t.Fatal(scale, v, is, e)
		}
		if want && 3*squareOf(v) > scale*scale { // at most M times the square root of one third in size
			t.Fatal(scale, v)
		}
	})
}

// P3.6
func TestNearest(t *testing.T) {
	for _, c := range []struct {
		scale int
		v     api.Third
		want  int
	}{
		{10, api.Third{A: 6, B: 1}, 4},
		{10, api.Third{}, 0},
		{10, api.Third{A: 10}, 4},
		{10, api.Third{B: 10}, 2},
		{10, api.Third{A: -10, B: -10}, 1},
		{10, api.Third{A: -10}, 3},
		{10, api.Third{B: -10}, 5},
		{10, api.Third{A: 10, B: 10}, 6},
		// of several the lesser number
		{10, api.Third{A: 5}, 0},
		{10, api.Third{A: -5, B: -5}, 0},
		{10, api.Third{A: 10, B: 5}, 4},   // 4 and 6
		{10, api.Third{A: 5, B: 10}, 2},   // 2 and 6
		{10, api.Third{A: -10, B: -5}, 1}, // 1 and 3
		{10, api.Third{A: -5, B: -10}, 1}, // 1 and 5
		{10, api.Third{A: -5, B: 5}, 2},   // 2 and 3
		{10, api.Third{A: 5, B: -5}, 4},   // 4 and 5
		{10, api.Third{A: 6}, 4},
		{10, api.Third{A: 4}, 0},
		{1, api.Third{A: 100000, B: 100000}, 6},
		{1, api.Third{A: 100000, B: -100000}, 4},
		{100000, api.Third{A: -100000, B: 100000}, 2},
		{100000, api.Third{A: 1, B: 1}, 0},
	} {
		if state, e := stator.Nearest(c.scale, c.v); state != c.want || e != api.OK {
			t.Error(c, state, e)
		}
	}
	eachTime(func(r *rand.Rand) {
		scale := oneOf(r, 1, []int{2, 10, 100000}[r.Intn(3)])
		v := someVector(r, []int{2, 10, 15, 100000}[r.Intn(4)])
		if state, e := stator.Nearest(scale, v); state != nearestOf(t, scale, v) || e != api.OK {
			t.Fatal(scale, v, state, e)
		}
	})
}

// P3.6
func TestScaleErrors(t *testing.T) {
	for _, scale := range wrongScales {
		is, e := stator.IsNear(scale, api.Third{})
		refused(t, fmt.Sprint(scale), is, e, api.ErrRange)
		state, e := stator.Nearest(scale, api.Third{A: 10})
		refused(t, fmt.Sprint(scale), state, e, api.ErrRange)
	}
	for _, v := range wrongVectors() {
		is, e := stator.IsNear(100000, v)
		refused(t, fmt.Sprint(v), is, e, api.ErrRange)
		state, e := stator.Nearest(10, v)
		refused(t, fmt.Sprint(v), state, e, api.ErrRange)
	}
}

func samePulses(a, b api.StatorPulses) bool {
	return slices.Equal(a.States, b.States) && slices.Equal(a.Left, b.Left)
}

// P3.6
func TestModulated(t *testing.T) {
	most := api.Third{A: 100000}
	for _, c := range []struct {
		scale int
		wants []api.Third
		want  api.StatorPulses
	}{
		{10, nil, api.StatorPulses{}},
		{10, []api.Third{}, api.StatorPulses{}},
		{10, []api.Third{{A: 4}, {A: 4}, {A: 4}}, api.StatorPulses{States: []int{0, 4, 0}, Left: []api.Third{{A: 4}, {A: -2}, {A: 2}}}},
		{10, []api.Third{{A: 6, B: 1}}, api.StatorPulses{States: []int{4}, Left: []api.Third{{A: -4, B: 1}}}},
		{10, []api.Third{{A: 5}, {}, {A: 1}, {B: -9}}, api.StatorPulses{
			States: []int{0, 0, 4, 5}, Left: []api.Third{{A: 5}, {A: 5}, {A: -4}, {A: -4, B: 1}},
		}},
		// what is left may be more than a part of a right vector
		{1, []api.Third{most, most}, api.StatorPulses{States: []int{4, 4}, Left: []api.Third{{A: 99999}, {A: 199998}}}},
		{100000, []api.Third{most, most}, api.StatorPulses{States: []int{4, 4}, Left: []api.Third{{}, {}}}},
	} {
		before := slices.Clone(c.wants)
		if p, e := stator.Modulated(c.scale, c.wants); !samePulses(p, c.want) || e != api.OK {
			t.Error(c, p, e)
		}
		if !slices.Equal(before, c.wants) {
			t.Error("changed", c)
		}
	}
	// the states 4 and 5 in turn
	full := slices.Repeat([]api.Third{{A: 100000, B: -100000}}, 60)
	p, e := stator.Modulated(1, full)
	if len(p.States) != 60 || len(p.Left) != 60 || p.Left[59] != (api.Third{A: 5999970, B: -5999970}) || e != api.OK {
		t.Error(p, e)
	}
}

// P3.6
func TestModulatedErrors(t *testing.T) {
	wrong := api.Third{A: 100001}
	for _, c := range []struct {
		name  string
		scale int
		wants []api.Third
		want  api.Errno
	}{
		{"61", 10, make([]api.Third, 61), api.ErrLarge},
		{"61, wrong", 10, slices.Repeat([]api.Third{wrong}, 61), api.ErrLarge},
		{"scale, 61", 0, make([]api.Third, 61), api.ErrRange},
		{"scale, none", 0, nil, api.ErrRange},
	} {
		p, e := stator.Modulated(c.scale, c.wants)
		if !samePulses(p, api.StatorPulses{}) || e != c.want {
			t.Error(c.name, p, e)
		}
	}
	for _, scale := range wrongScales {
		if p, e := stator.Modulated(scale, []api.Third{{A: 1}}); !samePulses(p, api.StatorPulses{}) || e != api.ErrRange {
			t.Error(scale, p, e)
		}
	}
	for _, v := range wrongVectors() {
		for _, wants := range [][]api.Third{{v}, {{A: 1}, v}, {{}, v, {}}} {
			if p, e := stator.Modulated(10, wants); !samePulses(p, api.StatorPulses{}) || e != api.ErrRange {
				t.Error(wants, p, e)
			}
		}
	}
}

// someWants are wants; if near all of them are near.
func someWants(r *rand.Rand, scale int, near bool) []api.Third {
	var wants []api.Third
	for range between(r, 0, api.MaxStatorPulses) {
		for {
			v := someVector(r, scale)
			if is, _ := stator.IsNear(scale, v); is || !near {
				wants = append(wants, v)
				break
			}
		}
	}
	return wants
}

// P3.6, step by step; P3.15
func TestRestsAreBounded(t *testing.T) {
	for i := range 400 {
		r := rand.New(rand.NewSource(int64(i)))
		scale, near := []int{1, 2, 3, 10, 1000, 100000}[r.Intn(6)], i%2 == 0
		wants := someWants(r, scale, near)
		p, e := stator.Modulated(scale, wants)
		if len(p.States) != len(wants) || len(p.Left) != len(wants) || e != api.OK {
			t.Fatal(scale, wants, p, e)
		}
		var left, wanted, gone api.Third
		for k, want := range wants {
			left = sum(left, want)
			state := nearestOf(t, scale, left)
			left = less(t, scale, left, state)
			if p.States[k] != state || p.Left[k] != left {
				t.Fatal(scale, wants, p, k)
			}
			if is, e := stator.IsNear(scale, left); near && (!is || e != api.OK) {
				t.Fatal(scale, wants, p, k)
			}
			s, _ := stator.StateVector(state)
			wanted, gone = sum(wanted, want), sum(gone, s)
			if wanted != sum(api.Third{A: scale * gone.A, B: scale * gone.B}, left) {
				t.Fatal(scale, wants, p, k)
			}
		}
	}
}

// P3.15: of each near rest and each near want, for small scales.
func TestNearRestsStayNear(t *testing.T) {
	for scale := 1; scale <= 7; scale++ {
		var near []api.Third
		for a := -scale; a <= scale; a++ {
			for b := -scale; b <= scale; b++ {
				if is, _ := stator.IsNear(scale, api.Third{A: a, B: b}); is {
					near = append(near, api.Third{A: a, B: b})
				}
			}
		}
		for _, rest := range near {
			for _, want := range near {
				p, e := stator.Modulated(scale, []api.Third{rest, want})
				if e != api.OK {
					t.Fatal(scale, rest, want, e)
				}
				if is, e := stator.IsNear(scale, p.Left[1]); !is || e != api.OK {
					t.Fatal(scale, rest, want, p, e)
				}
			}
		}
	}
}
