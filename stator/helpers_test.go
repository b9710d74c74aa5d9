package stator_test

import (
	"math"
	"math/cmplx"
	"math/rand"
	"reflect"
	"testing"

	"guideway/api"
	"guideway/stator"
)

// wrongSizes are numbers that are greater in size than a limit.
func wrongSizes(most int) []int {
	return []int{most + 1, -most - 1, math.MaxInt, math.MinInt, math.MinInt + 1}
}

// wrongVectors are vectors of which one part is, or both parts are, too great in size.
func wrongVectors() []api.Third {
	var out []api.Third
	for _, n := range wrongSizes(api.MaxStatorPart) {
		out = append(out, api.Third{A: n}, api.Third{B: n}, api.Third{A: n, B: n})
	}
	return out
}

// wrongPhases are phases of which one is too great in size.
func wrongPhases() [][3]int {
	var out [][3]int
	for _, n := range wrongSizes(api.MaxStatorPart) {
		out = append(out, [3]int{n}, [3]int{0, n}, [3]int{0, 0, n})
	}
	return out
}

func between(r *rand.Rand, lo, hi int) int {
	return lo + r.Intn(hi-lo+1)
}

// oneOf is often an end of a range: there mistakes are found.
func oneOf(r *rand.Rand, lo, hi int) int {
	switch r.Intn(5) {
	case 0:
		return lo
	case 1:
		return hi
	}
	return between(r, lo, hi)
}

func someVector(r *rand.Rand, most int) api.Third {
	return api.Third{A: oneOf(r, -most, most), B: oneOf(r, -most, most)}
}

func somePhases(r *rand.Rand) [3]int {
	var x [3]int
	for i := range x {
		x[i] = oneOf(r, -api.MaxStatorPart, api.MaxStatorPart)
	}
	return x
}

// someMost is a limit of parts: small ones make what is rare frequent.
func someMost(r *rand.Rand) int {
	return []int{1, 3, 20, api.MaxStatorPart}[r.Intn(4)]
}

// eachTime calls a function many times.
func eachTime(f func(*rand.Rand)) {
	r := rand.New(rand.NewSource(1))
	for range 1000 {
		f(r)
	}
}

func sum(v, other api.Third) api.Third {
	return api.Third{A: v.A + other.A, B: v.B + other.B}
}

func opposite(v api.Third) api.Third {
	return api.Third{A: -v.A, B: -v.B}
}

// product multiplies as the definition tells: w w is -1 - w.
func product(v, other api.Third) api.Third {
	var powers [3]int
	powers[0] = v.A * other.A
	powers[1] = v.A*other.B + v.B*other.A
	powers[2] = v.B * other.B
	return api.Third{A: powers[0] - powers[2], B: powers[1] - powers[2]}
}

// overFlux is a current times the conjugate of a flux.
func overFlux(current, flux api.Third) api.Third {
	return product(current, api.Third{A: flux.A - flux.B, B: -flux.B})
}

func squareOf(v api.Third) int {
	return v.A*v.A - v.A*v.B + v.B*v.B
}

// point is where a vector lies in the plane.
func point(v api.Third) complex128 {
	return complex(float64(v.A), 0) + complex(float64(v.B), 0)*cmplx.Rect(1, 2*math.Pi/3)
}

// sixth is a sixth of a turn to a power from 0 to 5.
func sixth(power int) api.Third {
	return []api.Third{{A: 1}, {A: 1, B: 1}, {B: 1}, {A: -1}, {A: -1, B: -1}, {B: -1}}[power]
}

func forceOf(t *testing.T, current, flux api.Third) int {
	t.Helper()
	n, e := stator.ForceOf(current, flux)
	if e != api.OK {
		t.Fatal(current, flux, e)
	}
	return n
}

func turnedBy(t *testing.T, v api.Third, sixths int) api.Third {
	t.Helper()
	v, e := stator.Turned(v, sixths)
	if e != api.OK {
		t.Fatal(v, sixths, e)
	}
	return v
}

func sizeOf(x int) int {
	return max(x, -x)
}

// isZero tells whether a result is its zero value, or an empty list.
func isZero(x any) bool {
	v := reflect.ValueOf(x)
	return v.IsZero() || v.Kind() == reflect.Slice && v.Len() == 0
}

// refused fails if a call has not this error, or another result beside it.
func refused(t *testing.T, name string, result any, e, want api.Errno) {
	t.Helper()
	if e != want || !isZero(result) {
		t.Error(name, result, e, want)
	}
}
