package stator

import "guideway/api"

// OrdersOf returns the orders of six samples.
func OrdersOf(x [6]int) ([6]api.Third, api.Errno) {
	if err := checkSizes(api.MaxStatorPart, x[:]...); err != api.OK {
		return [6]api.Third{}, err
	}
	var samples [6]api.Third
	for n, sample := range x {
		samples[n] = api.Third{A: sample}
	}
	return turnedSums(samples, -1), api.OK
}

// SamplesOf returns the samples that have some orders.
func SamplesOf(h [6]api.Third) ([6]int, api.Errno) {
	for _, order := range h {
		if err := checkSizes(6*api.MaxStatorPart, order.A, order.B); err != api.OK {
			return [6]int{}, err
		}
	}
	// Turned back the other way the orders come to six times the samples, and to nothing else.
	var x [6]int
	for n, sum := range turnedSums(h, 1) {
		if sum.A%6 != 0 || sum.B != 0 {
			return [6]int{}, api.ErrForm
		}
		x[n] = sum.A / 6
	}
	if err := checkSizes(api.MaxStatorPart, x[:]...); err != api.OK {
		return [6]int{}, err
	}
	return x, api.OK
}

// EnergyOf returns the energy of six samples.
func EnergyOf(x [6]int) (int, api.Errno) {
	if err := checkSizes(api.MaxStatorPart, x[:]...); err != api.OK {
		return 0, err
	}
	energy := 0
	for _, sample := range x {
		energy += sample * sample
	}
	return energy, api.OK
}

// turnedSums returns, for k from 0 to 5, the sum of all vectors, the vector n turned by k n sixths times way.
func turnedSums(vectors [6]api.Third, way int) [6]api.Third {
	var sums [6]api.Third
	for k := range sums {
		for n, v := range vectors {
			sums[k] = plus(sums[k], turned(v, way*k*n))
		}
	}
	return sums
}
