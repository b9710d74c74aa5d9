package brake

import "guideway/api"

// CurveOf returns the curve of a stop.
func CurveOf(t api.BrakeTrack, b api.BrakeSystem, stop int) ([]int, api.Errno) {
	r, err := checkRide(t, b, errorOfStop(t, stop))
	if err != api.OK {
		return nil, err
	}
	return r.curve(stop), api.OK
}

// LeastOf returns the least squares for a stop.
func LeastOf(t api.BrakeTrack, b api.BrakeSystem, stop int) ([]int, api.Errno) {
	r, err := checkRide(t, b, errorOfStop(t, stop))
	if err != api.OK {
		return nil, err
	}
	return r.least(stop), api.OK
}

func (r ride) curve(stop int) []int {
	limits := r.limits()
	curve := make([]int, stop+2)
	for i := stop; i >= 0; i-- {
		curve[i] = min(limits[i], curve[i+1]+r.braked(i))
		if curve[i] < 0 || curve[i+1] == api.BrakeNone {
			curve[i] = api.BrakeNone
		}
	}
	return curve
}

func (r ride) least(stop int) []int {
	least := make([]int, stop+1)
	for i := stop - 1; i >= 0; i-- {
		least[i] = max(0, least[i+1]+r.coasted(i))
	}
	return least
}

// Reaches returns whether a train reaches a stop.
func Reaches(t api.BrakeTrack, b api.BrakeSystem, x api.BrakeRun, stop int) (bool, api.Errno) {
	r, err := checkRide(t, b, errorOfState(t, x), errorOfStop(t, stop), errorOfOrder(x, stop))
	if err != api.OK {
		return false, err
	}
	return r.reaches(x, stop), api.OK
}

// RunTo returns the squares of a run to a stop.
func RunTo(t api.BrakeTrack, b api.BrakeSystem, x api.BrakeRun, stop int) ([]int, api.Errno) {
	r, err := checkRide(t, b, errorOfState(t, x), errorOfStop(t, stop), errorOfOrder(x, stop))
	if err != api.OK {
		return nil, err
	}
	return r.runTo(x, stop)
}

// StopsOf returns all stops that a train reaches.
func StopsOf(t api.BrakeTrack, b api.BrakeSystem, x api.BrakeRun) ([]int, api.Errno) {
	r, err := checkRide(t, b, errorOfState(t, x))
	if err != api.OK {
		return nil, err
	}
	var reached []int
	for stop := range r.stops(x.Post) {
		if r.reaches(x, stop) {
			reached = append(reached, stop)
		}
	}
	return reached, api.OK
}

// GreatestAt returns the greatest square with which a train at a post is safe.
func GreatestAt(t api.BrakeTrack, b api.BrakeSystem, post int) (int, api.Errno) {
	r, err := checkRide(t, b, errorOfPost(t, post))
	if err != api.OK {
		return 0, err
	}
	greatest := api.BrakeNone
	for stop := range r.stops(post) {
		// If a stop is reached from a post at all, it is reached with the square of its curve.
		fastest := api.BrakeRun{Post: post, Square: r.curve(stop)[post]}
		if r.reaches(fastest, stop) {
			greatest = max(greatest, fastest.Square)
		}
	}
	if greatest == api.BrakeNone {
		return 0, api.ErrNone
	}
	return greatest, api.OK
}

func (r ride) reaches(x api.BrakeRun, stop int) bool {
	_, err := r.runTo(x, stop)
	return err == api.OK
}

func (r ride) isSafe(x api.BrakeRun) bool {
	for stop := range r.stops(x.Post) {
		if r.reaches(x, stop) {
			return true
		}
	}
	return false
}

// runTo returns the squares of a run to a stop that is not ahead of its post, or why the stop is not reached.
func (r ride) runTo(x api.BrakeRun, stop int) ([]int, api.Errno) {
	curve := r.curve(stop)
	if curve[x.Post] == api.BrakeNone || x.Square > curve[x.Post] {
		return nil, api.ErrBreak
	}
	square := x.Square
	squares := []int{square}
	for i := x.Post; i < stop; i++ {
		square = min(curve[i+1], square-r.coasted(i))
		if square < 0 {
			return nil, api.ErrNone
		}
		squares = append(squares, square)
	}
	return squares, api.OK
}
