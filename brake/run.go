package brake

import (
	"slices"

	"guideway/api"
)

// StandsAt returns the place at which a braked train stands.
func StandsAt(t api.BrakeTrack, b api.BrakeSystem, x api.BrakeRun) (api.Range, api.Errno) {
	r, err := checkRide(t, b, errorOfState(t, x))
	if err != api.OK {
		return api.Range{}, err
	}
	places := r.places()
	square := x.Square
	for i := x.Post; i < len(r.Pieces); i++ {
		if r.deceleration(i) > 0 && r.braked(i) >= square {
			twice := 2 * r.deceleration(i)
			return api.Range{Lo: places[i] + floor(square, twice), Hi: places[i] + ceiling(square, twice)}, api.OK
		}
		square -= r.braked(i)
	}
	return api.Range{}, api.ErrNone
}

// CheckSquares accepts squares that can be run, or returns the first post at which, or up to which, they can not.
func CheckSquares(t api.BrakeTrack, b api.BrakeSystem, squares []int) (int, api.Errno) {
	r, err := checkRide(t, b, errorOfSquares(t, squares))
	if err != api.OK {
		return 0, err
	}
	limits := r.limits()
	for i, square := range squares {
		if square > limits[i] || i > 0 && !r.canChange(i-1, squares[i-1], square) {
			return i, api.ErrBreak
		}
	}
	return 0, api.OK
}

// canChange tells whether a train can change its square so along a piece.
func (r ride) canChange(piece, from, to int) bool {
	return within(to, from-r.braked(piece), from+r.driven(piece))
}

// Fastest returns the greatest squares that can be run from an end to another one.
func Fastest(t api.BrakeTrack, b api.BrakeSystem, ends [2]int) ([]int, api.Errno) {
	r, err := checkRide(t, b, errorOfSquare(ends[:]...))
	if err != api.OK {
		return nil, err
	}
	fastest := r.limits()
	last := len(fastest) - 1
	fastest[last] = min(fastest[last], ends[1])
	for i := last - 1; i >= 0; i-- {
		fastest[i] = min(fastest[i], fastest[i+1]+r.braked(i))
	}
	if ends[0] > fastest[0] {
		return nil, api.ErrNone
	}
	// Less at a post than what the brake permits leaves it able to permit the next one: what it loses and what the drive
	// gains are together never below 0. So one way back and one way forward are enough.
	fastest[0] = ends[0]
	for i := range last {
		fastest[i+1] = min(fastest[i+1], fastest[i]+r.driven(i))
	}
	if slices.Min(fastest) < 0 {
		return nil, api.ErrNone
	}
	return fastest, api.OK
}

// FirstUnsafe returns the first post at which a train with the square there is not safe.
func FirstUnsafe(t api.BrakeTrack, b api.BrakeSystem, squares []int) (int, api.Errno) {
	r, err := checkRide(t, b, errorOfSquares(t, squares))
	if err != api.OK {
		return 0, err
	}
	for post, square := range squares {
		if !r.isSafe(api.BrakeRun{Post: post, Square: square}) {
			return post, api.OK
		}
	}
	return 0, api.ErrNone
}

// TimeOf returns the time of all pieces together, in milliseconds.
func TimeOf(t api.BrakeTrack, squares []int) (api.Range, api.Errno) {
	c, err := check(t, errorOfSquares(t, squares))
	if err != api.OK {
		return api.Range{}, err
	}
	var total api.Range
	for i, piece := range c.Pieces {
		if squares[i] == 0 && squares[i+1] == 0 {
			return api.Range{}, api.ErrZero
		}
		from, to := root(squares[i]), root(squares[i+1])
		total.Lo += floor(2*second*piece.Length, from.Hi+to.Hi)
		total.Hi += ceiling(2*second*piece.Length, from.Lo+to.Lo)
	}
	return total, api.OK
}
