package brake_test

import (
	"math"
	"math/rand"
	"reflect"
	"slices"
	"testing"

	"guideway/api"
	"guideway/brake"
)

// example and system are those of the chapter's examples.
func example() api.BrakeTrack {
	return api.BrakeTrack{Name: "t", Pieces: []api.BrakePiece{
		{Length: 100, Limit: 10000},
		{Length: 100, Limit: 8000, Leave: true},
		{Length: 50, Gradient: -10, Limit: 10000},
		{Length: 200, Limit: 10000, Leave: true},
	}}
}

func system() api.BrakeSystem {
	return api.BrakeSystem{Brake: 100, Drag: 10, Drive: 50}
}

// one is a track of one piece.
func one(piece api.BrakePiece) api.BrakeTrack {
	return api.BrakeTrack{Name: "one", Pieces: []api.BrakePiece{piece}}
}

// longest is a track that is as long as can be, with a stop at its end.
func longest(gradient int) api.BrakeTrack {
	pieces := slices.Repeat([]api.BrakePiece{{Length: 10000000, Gradient: gradient, Limit: 20000000000}}, 12)
	pieces[11].Leave = true
	return api.BrakeTrack{Name: "abcdefghij-9", Pieces: pieces}
}

func changed(t api.BrakeTrack, change func(*api.BrakeTrack)) api.BrakeTrack {
	t.Pieces = slices.Clone(t.Pieces)
	change(&t)
	return t
}

// same compares tracks; nil lists and empty ones are the same.
func same(a, b api.BrakeTrack) bool {
	return a.Name == b.Name && slices.Equal(a.Pieces, b.Pieces)
}

// outside are numbers that are not from lo to hi.
func outside(lo, hi int) []int {
	return []int{lo - 1, hi + 1, math.MinInt, math.MaxInt}
}

func between(r *rand.Rand, lo, hi int) int {
	return lo + r.Intn(hi-lo+1)
}

// oneOf is often an end of a range: there mistakes are found.
func oneOf(r *rand.Rand, lo, hi int) int {
	switch r.Intn(6) {
	case 0:
		return lo
	case 1:
		return hi
	}
	return between(r, lo, hi)
}

// most is how great the numbers of some track and some system may be.
type most struct {
	pieces, length, gradient, limit int
	brake, drag, drive              int
}

// small is for tracks of which all squares can be tried, large for those with all numbers that are right.
var (
	small = most{5, 3, 3, 40, 30, 12, 20}
	large = most{12, 10000000, 100, 20000000000, 3000, 500, 2000}
)

func (m most) track(r *rand.Rand) api.BrakeTrack {
	t := api.BrakeTrack{Name: []string{"t", "Z-9", "abcdefghijkl"}[r.Intn(3)]}
	gradient := []int{0, 1, m.gradient}[r.Intn(3)]
	length := []int{1, m.length/100 + 1, m.length}[r.Intn(3)]
	for range oneOf(r, 1, m.pieces) {
		t.Pieces = append(t.Pieces, api.BrakePiece{
			Length:   oneOf(r, 1, length),
			Gradient: oneOf(r, -gradient, gradient),
			Limit:    m.limit - oneOf(r, 0, m.limit)*r.Intn(2),
			Leave:    r.Intn(3) > 0,
		})
	}
	return t
}

func (m most) system(r *rand.Rand) api.BrakeSystem {
	b := api.BrakeSystem{Brake: oneOf(r, 1, m.brake), Drive: oneOf(r, 0, m.drive)}
	b.Drag = oneOf(r, 0, min(m.drag, b.Brake))
	return b
}

// eachRide calls a function with many tracks and systems, small and large ones.
func eachRide(f func(r *rand.Rand, m most, t api.BrakeTrack, b api.BrakeSystem)) {
	r := rand.New(rand.NewSource(1))
	for range 1500 {
		f(r, small, small.track(r), small.system(r))
		f(r, large, large.track(r), large.system(r))
	}
}

func stopsIn(t api.BrakeTrack) []int {
	var stops []int
	for i, piece := range t.Pieces {
		if piece.Leave {
			stops = append(stops, i)
		}
	}
	return stops
}

// lossOf is what a train loses along a piece, with its own deceleration.
func lossOf(piece api.BrakePiece, own int) int {
	return 2 * (own + 10*piece.Gradient) * piece.Length
}

func limitAt(t api.BrakeTrack, post int) int {
	limit := math.MaxInt
	for i, piece := range t.Pieces {
		if i == post || i+1 == post {
			limit = min(limit, piece.Limit)
		}
	}
	return limit
}

// curveAt is the curve of a stop at a post, by its definition.
func curveAt(t api.BrakeTrack, b api.BrakeSystem, stop, post int) int {
	if post == stop+1 {
		return 0
	}
	next := curveAt(t, b, stop, post+1)
	square := min(limitAt(t, post), next+lossOf(t.Pieces[post], b.Brake))
	if next == -1 || square < 0 {
		return -1
	}
	return square
}

// leastAt is the least square for a stop at a post, by its definition.
func leastAt(t api.BrakeTrack, b api.BrakeSystem, stop, post int) int {
	if post == stop {
		return 0
	}
	return max(0, leastAt(t, b, stop, post+1)+lossOf(t.Pieces[post], b.Drag))
}

// reaches is whether a train reaches a stop, by the definition of its run.
func reaches(t api.BrakeTrack, b api.BrakeSystem, x api.BrakeRun, stop int) bool {
	curve := curveAt(t, b, stop, x.Post)
	if curve == -1 || x.Square > curve {
		return false
	}
	for x.Post < stop && x.Square >= 0 {
		coasted := x.Square - lossOf(t.Pieces[x.Post], b.Drag)
		x.Post++
		x.Square = min(coasted, curveAt(t, b, stop, x.Post))
	}
	return x.Square >= 0
}

// isSafe is whether a train reaches some stop.
func isSafe(t api.BrakeTrack, b api.BrakeSystem, x api.BrakeRun) bool {
	return slices.ContainsFunc(stopsIn(t), func(stop int) bool { return stop >= x.Post && reaches(t, b, x, stop) })
}

// squaresNear are squares at a post at which something may change: those of curves, least ones, limits, and next to them.
func squaresNear(t api.BrakeTrack, b api.BrakeSystem, post int) []int {
	near := []int{0, 20000000000, limitAt(t, post)}
	for _, stop := range stopsIn(t) {
		if stop >= post {
			near = append(near, curveAt(t, b, stop, post), leastAt(t, b, stop, post))
		}
	}
	var squares []int
	for _, square := range near {
		for by := -1; by <= 1; by++ {
			if square+by >= 0 && square+by <= 20000000000 {
				squares = append(squares, square+by)
			}
		}
	}
	slices.Sort(squares)
	return slices.Compact(squares)
}

// isZero tells whether a result is its zero value, or an empty list.
func isZero(x any) bool {
	v := reflect.ValueOf(x)
	return v.IsZero() || v.Kind() == reflect.Slice && v.Len() == 0
}

// refused fails if a call has not this error, or another result beside it.
func refused(t *testing.T, name string, result any, e, want api.Errno) {
	t.Helper()
	if e != want || !isZero(result) {
		t.Error(name, result, e, want)
	}
}

// isList fails if a call has not this list as its result.
func isList(t *testing.T, got []int, e api.Errno, want ...int) {
	t.Helper()
	if e != api.OK || !slices.Equal(got, want) {
		t.Error(got, e, want)
	}
}

// isNumber fails if a call has not this number as its result.
func isNumber(t *testing.T, got int, e api.Errno, want int) {
	t.Helper()
	if e != api.OK || got != want {
		t.Error(got, e, want)
	}
}

// arguments are those of all functions.
type arguments struct {
	t, other   api.BrakeTrack
	b          api.BrakeSystem
	x          api.BrakeRun
	stop, post int
	squares    []int
	ends       [2]int
}

// right are arguments that all functions accept.
func right() arguments {
	return arguments{
		t: example(), other: example(), b: system(), x: api.BrakeRun{Square: 3000}, stop: 1,
		squares: []int{0, 8000, 8000, 10000, 0},
	}
}

// fault makes arguments wrong.
type fault struct {
	name   string
	change func(*arguments)
	want   api.Errno
}

// function is a function, and the faults that it refuses: those of the first list ahead of those of the next one.
type function struct {
	name   string
	call   func(arguments) (any, api.Errno)
	faults [][]fault
}

func functions() []function {
	tracks, systems, states, stops, order := trackFaults(), systemFaults(), stateFaults(), stopFaults(), orderFaults()
	squares := squaresFaults()
	return []function{
		{"Places", func(a arguments) (any, api.Errno) { l, e := brake.Places(a.t); return l, e }, [][]fault{tracks}},
		{"LimitsAt", func(a arguments) (any, api.Errno) { l, e := brake.LimitsAt(a.t); return l, e }, [][]fault{tracks}},
		{"CurveOf", func(a arguments) (any, api.Errno) { l, e := brake.CurveOf(a.t, a.b, a.stop); return l, e }, [][]fault{tracks, systems, stops}},
		{"LeastOf", func(a arguments) (any, api.Errno) { l, e := brake.LeastOf(a.t, a.b, a.stop); return l, e }, [][]fault{tracks, systems, stops}},
		{"Reaches", func(a arguments) (any, api.Errno) { is, e := brake.Reaches(a.t, a.b, a.x, a.stop); return is, e }, [][]fault{tracks, systems, states, stops, order}},
		{"RunTo", func(a arguments) (any, api.Errno) { l, e := brake.RunTo(a.t, a.b, a.x, a.stop); return l, e }, [][]fault{tracks, systems, states, stops, order, breakFaults(), comeShortFaults()}},
		{"StopsOf", func(a arguments) (any, api.Errno) { l, e := brake.StopsOf(a.t, a.b, a.x); return l, e }, [][]fault{tracks, systems, states}},
		{"GreatestAt", func(a arguments) (any, api.Errno) { n, e := brake.GreatestAt(a.t, a.b, a.post); return n, e }, [][]fault{tracks, systems, postFaults()}},
		{"StandsAt", func(a arguments) (any, api.Errno) { x, e := brake.StandsAt(a.t, a.b, a.x); return x, e }, [][]fault{tracks, systems, states, rollFaults()}},
		{"CheckSquares", func(a arguments) (any, api.Errno) { n, e := brake.CheckSquares(a.t, a.b, a.squares); return n, e }, [][]fault{tracks, systems, squares}},
		{"Fastest", func(a arguments) (any, api.Errno) { l, e := brake.Fastest(a.t, a.b, a.ends); return l, e }, [][]fault{tracks, systems, endsFaults(), noneFaults()}},
		{"FirstUnsafe", func(a arguments) (any, api.Errno) { n, e := brake.FirstUnsafe(a.t, a.b, a.squares); return n, e }, [][]fault{tracks, systems, squares}},
		{"TimeOf", func(a arguments) (any, api.Errno) { x, e := brake.TimeOf(a.t, a.squares); return x, e }, [][]fault{tracks, squares, zeroFaults()}},
		{"Reversed", func(a arguments) (any, api.Errno) { x, e := brake.Reversed(a.t); return x, e }, [][]fault{tracks}},
		{"Joined", func(a arguments) (any, api.Errno) { x, e := brake.Joined(a.t, a.other); return x, e }, [][]fault{tracks, otherFaults(), longFaults()}},
		{"Print", func(a arguments) (any, api.Errno) { s, e := brake.Print(a.t); return s, e }, [][]fault{tracks}},
	}
}
