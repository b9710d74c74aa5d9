package stator

import "guideway/api"

// wholeTurn is how many sixths come to a whole turn.
const wholeTurn = 6

// VectorOf returns the vector of three phases.
func VectorOf(x [3]int) (api.Third, api.Errno) {
	if err := checkSizes(api.MaxStatorPart, x[:]...); err != api.OK {
		return api.Third{}, err
	}
	return api.Third{A: x[0] - x[2], B: x[1] - x[2]}, api.OK
}

// PhasesOf returns the phases whose sum is 0, and whose vector is three times a vector.
func PhasesOf(v api.Third) ([3]int, api.Errno) {
	if err := checkVector(v); err != api.OK {
		return [3]int{}, err
	}
	return phases(v), api.OK
}

// Turned returns a vector turned by some sixths of a turn.
func Turned(v api.Third, sixths int) (api.Third, api.Errno) {
	if err := checkVector(v); err != api.OK {
		return api.Third{}, err
	}
	if err := checkSizes(api.MaxStatorTurns, sixths); err != api.OK {
		return api.Third{}, err
	}
	return turned(v, sixths), api.OK
}

// SizeOf returns the size of a vector.
func SizeOf(v api.Third) (api.Range, api.Errno) {
	if err := checkVector(v); err != api.OK {
		return api.Range{}, err
	}
	return root(square(v), 2*api.MaxStatorPart), api.OK
}

// SectorOf returns the sector of a vector.
func SectorOf(v api.Third) (int, api.Errno) {
	if err := checkVector(v); err != api.OK {
		return 0, err
	}
	if v == (api.Third{}) {
		return 0, api.ErrZero
	}
	sector := 0
	for !isInFirstSector(turned(v, -sector)) {
		sector++
	}
	return sector, api.OK
}

func isInFirstSector(v api.Third) bool {
	return v.B >= 0 && v.B < v.A
}

func checkVector(v api.Third) api.Errno {
	return checkSizes(api.MaxStatorPart, v.A, v.B)
}

func checkVectors(list []api.Third) api.Errno {
	for _, v := range list {
		if err := checkVector(v); err != api.OK {
			return err
		}
	}
	return api.OK
}

func phases(v api.Third) [3]int {
	return [3]int{2*v.A - v.B, 2*v.B - v.A, -v.A - v.B}
}

func turned(v api.Third, sixths int) api.Third {
	rest := sixths % wholeTurn
	if rest < 0 {
		rest += wholeTurn
	}
	for range rest {
		v = api.Third{A: v.A - v.B, B: v.A}
	}
	return v
}

func plus(v, other api.Third) api.Third {
	return api.Third{A: v.A + other.A, B: v.B + other.B}
}

func minus(v, other api.Third) api.Third {
	return api.Third{A: v.A - other.A, B: v.B - other.B}
}

func scaled(scale int, v api.Third) api.Third {
	return api.Third{A: scale * v.A, B: scale * v.B}
}

// times returns the product of two vectors; w w is -1 - w.
func times(v, other api.Third) api.Third {
	both := v.B * other.B
	return api.Third{A: v.A*other.A - both, B: v.A*other.B + v.B*other.A - both}
}

func conjugate(v api.Third) api.Third {
	return api.Third{A: v.A - v.B, B: -v.B}
}

// square returns the square of the size of a vector.
func square(v api.Third) int {
	return v.A*v.A - v.A*v.B + v.B*v.B
}
