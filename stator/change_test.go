package stator_test

import (
	"fmt"
	"math"
	"math/big"
	"math/rand"
	"slices"
	"testing"

	"guideway/api"
	"guideway/stator"
)

// P3.4
func TestHanded(t *testing.T) {
	for _, c := range []struct {
		from, to api.Third
		steps    int
		want     []api.Third
	}{
		{api.Third{}, api.Third{B: 10}, 4, []api.Third{{B: 2}, {B: 5}, {B: 7}, {B: 10}}},
		{api.Third{}, api.Third{B: -10}, 4, []api.Third{{B: -3}, {B: -5}, {B: -8}, {B: -10}}},
		{api.Third{A: 10, B: 1}, api.Third{A: 0, B: 4}, 3, []api.Third{{A: 6, B: 2}, {A: 3, B: 3}, {A: 0, B: 4}}},
		{api.Third{A: 5, B: 6}, api.Third{A: -7, B: 8}, 1, []api.Third{{A: -7, B: 8}}},
		{api.Third{A: 5, B: 6}, api.Third{A: 5, B: 6}, 2, []api.Third{{A: 5, B: 6}, {A: 5, B: 6}}},
		{api.Third{A: -1}, api.Third{A: 1, B: -1}, 4, []api.Third{{A: -1, B: -1}, {A: 0, B: -1}, {A: 0, B: -1}, {A: 1, B: -1}}},
		{api.Third{A: -100000}, api.Third{A: 100000, B: 3}, 2, []api.Third{{B: 1}, {A: 100000, B: 3}}},
	} {
		if l, e := stator.Handed(c.from, c.to, c.steps); !slices.Equal(l, c.want) || e != api.OK {
			t.Error(c, l, e)
		}
	}
}

// P3.4
func TestHandedErrors(t *testing.T) {
	one := api.Third{A: 1}
	for _, v := range wrongVectors() {
		for _, both := range [][2]api.Third{{v, one}, {one, v}} {
			l, e := stator.Handed(both[0], both[1], 4)
			refused(t, fmt.Sprint(both), l, e, api.ErrRange)
		}
	}
	for _, steps := range []int{0, -1, 101, math.MaxInt, math.MinInt} {
		l, e := stator.Handed(one, one, steps)
		refused(t, fmt.Sprint(steps), l, e, api.ErrRange)
	}
}

// P3.4, by its definition; P3.13
func TestChangesAreSmall(t *testing.T) {
	eachTime(func(r *rand.Rand) {
		most := someMost(r)
		from, to, steps := someVector(r, most), someVector(r, most), oneOf(r, 1, api.MaxStatorSteps)
		l, e := stator.Handed(from, to, steps)
		if len(l) != steps || l[steps-1] != to || e != api.OK {
			t.Fatal(from, to, steps, l, e)
		}
		before := from
		for i, v := range l {
			if v.A != changed(from.A, to.A, i+1, steps) || v.B != changed(from.B, to.B, i+1, steps) {
				t.Fatal(from, to, steps, i, v)
			}
			if !isSmallStep(from.A, to.A, steps, v.A-before.A) || !isSmallStep(from.B, to.B, steps, v.B-before.B) {
				t.Fatal(from, to, steps, i, v, before)
			}
			before = v
		}
	})
}

// changed is the part of the vector k of a change.
func changed(from, to, k, steps int) int {
	part := new(big.Rat).SetFrac64(int64(k*(to-from)), int64(steps))
	return from + int(new(big.Int).Div(part.Num(), part.Denom()).Int64()) // Euclidean: down, as the denominator is above 0
}

// isSmallStep tells whether a step is at most the size of the difference divided by the number of steps, rounded up.
func isSmallStep(from, to, steps, step int) bool {
	return sizeOf(step) <= (sizeOf(to-from)+steps-1)/steps
}
