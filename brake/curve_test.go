package brake_test

import (
	"math/rand"
	"slices"
	"testing"

	"guideway/api"
	"guideway/brake"
)

// P5.1
func TestPlaces(t *testing.T) {
	l, e := brake.Places(example())
	isList(t, l, e, 0, 100, 200, 250, 450)
	l, e = brake.Places(one(api.BrakePiece{Length: 7}))
	isList(t, l, e, 0, 7)
	l, e = brake.Places(longest(0))
	isList(t, l, e, 0, 10000000, 20000000, 30000000, 40000000, 50000000, 60000000, 70000000, 80000000, 90000000, 100000000, 110000000, 120000000)
}

// P5.1
func TestLimitsAt(t *testing.T) {
	l, e := brake.LimitsAt(example())
	isList(t, l, e, 10000, 8000, 8000, 10000, 10000)
	l, e = brake.LimitsAt(one(api.BrakePiece{Length: 7, Limit: 3}))
	isList(t, l, e, 3, 3)
	l, e = brake.LimitsAt(api.BrakeTrack{Name: "a", Pieces: []api.BrakePiece{{Length: 1, Limit: 20000000000}, {Length: 1}, {Length: 1, Limit: 5}, {Length: 1, Limit: 4}}})
	isList(t, l, e, 20000000000, 0, 0, 4, 4)
	eachRide(func(r *rand.Rand, m most, track api.BrakeTrack, b api.BrakeSystem) {
		var want []int
		for post := range len(track.Pieces) + 1 {
			want = append(want, limitAt(track, post))
		}
		l, e := brake.LimitsAt(track)
		isList(t, l, e, want...)
	})
}

// steep is the example's track with a stop in the piece that falls.
func steep() api.BrakeTrack {
	return changed(example(), func(t *api.BrakeTrack) { t.Pieces[2].Leave = true })
}

// P5.2
func TestCurveOf(t *testing.T) {
	for _, c := range []struct {
		name  string
		track api.BrakeTrack
		b     api.BrakeSystem
		stop  int
		want  []int
	}{
		{"example 2", example(), system(), 1, []int{10000, 8000, 0}},
		{"example 2", example(), system(), 3, []int{10000, 8000, 8000, 10000, 0}},
		{"below the limits", example(), api.BrakeSystem{Brake: 20}, 1, []int{8000, 4000, 0}},
		{"by its drag and its drive the same", example(), api.BrakeSystem{Brake: 20, Drag: 20, Drive: 7}, 1, []int{8000, 4000, 0}},
		{"not held", steep(), api.BrakeSystem{Brake: 99}, 2, []int{-1, -1, -1, 0}},
		{"just held", steep(), api.BrakeSystem{Brake: 100}, 2, []int{10000, 8000, 0, 0}},
		{"held", steep(), api.BrakeSystem{Brake: 101}, 2, []int{10000, 8000, 100, 0}},
		{"not held ahead of the stop", example(), api.BrakeSystem{Brake: 10}, 3, []int{-1, -1, -1, 4000, 0}},
		{"just held ahead of the stop", example(), api.BrakeSystem{Brake: 20}, 3, []int{8000, 4000, 0, 8000, 0}},
		{"limits of 0", changed(example(), func(t *api.BrakeTrack) { t.Pieces[2].Limit = 0 }), system(), 3, []int{10000, 8000, 0, 0, 0}},
		{"all limits of 0", one(api.BrakePiece{Length: 5, Leave: true}), system(), 0, []int{0, 0}},
		{"the greatest numbers", longest(100), api.BrakeSystem{Brake: 3000}, 11, append(slices.Repeat([]int{20000000000}, 12), 0)},
		{"the steepest fall", longest(-100), api.BrakeSystem{Brake: 999}, 11, append(slices.Repeat([]int{-1}, 12), 0)},
		{"the steepest fall, held", longest(-100), api.BrakeSystem{Brake: 1001}, 11,
			[]int{240000000, 220000000, 200000000, 180000000, 160000000, 140000000, 120000000, 100000000, 80000000, 60000000, 40000000, 20000000, 0}},
	} {
		l, e := brake.CurveOf(c.track, c.b, c.stop)
		if e != api.OK || !slices.Equal(l, c.want) {
			t.Error(c, l, e)
		}
	}
}

// P5.2
func TestLeastOf(t *testing.T) {
	rising := changed(example(), func(t *api.BrakeTrack) { t.Pieces[2].Gradient = 10 })
	for _, c := range []struct {
		name  string
		track api.BrakeTrack
		b     api.BrakeSystem
		stop  int
		want  []int
	}{
		{"example 3", example(), system(), 3, []int{4000, 2000, 0, 0}},
		{"example 3", example(), system(), 1, []int{2000, 0}},
		{"its own piece does not count", one(api.BrakePiece{Length: 5, Gradient: 9, Leave: true}), system(), 0, []int{0}},
		{"rising", rising, system(), 3, []int{15000, 13000, 11000, 0}},
		{"without drag", rising, api.BrakeSystem{Brake: 1}, 3, []int{10000, 10000, 10000, 0}},
		{"falling a little", changed(example(), func(t *api.BrakeTrack) { t.Pieces[0].Gradient = -1 }), system(), 3, []int{2000, 2000, 0, 0}},
		{"above all limits", longest(100), api.BrakeSystem{Brake: 500, Drag: 500}, 11,
			[]int{330000000000, 300000000000, 270000000000, 240000000000, 210000000000, 180000000000, 150000000000, 120000000000, 90000000000, 60000000000, 30000000000, 0}},
		{"falling", longest(-100), api.BrakeSystem{Brake: 500, Drag: 500}, 11, make([]int, 12)},
	} {
		l, e := brake.LeastOf(c.track, c.b, c.stop)
		if e != api.OK || !slices.Equal(l, c.want) {
			t.Error(c, l, e)
		}
	}
}

// P5.2, by the definitions.
func TestCurvesByDefinition(t *testing.T) {
	none, some := 0, 0
	eachRide(func(r *rand.Rand, m most, track api.BrakeTrack, b api.BrakeSystem) {
		for _, stop := range stopsIn(track) {
			var curve, least []int
			for post := range stop + 2 {
				curve = append(curve, curveAt(track, b, stop, post))
			}
			for post := range stop + 1 {
				least = append(least, leastAt(track, b, stop, post))
			}
			l, e := brake.CurveOf(track, b, stop)
			isList(t, l, e, curve...)
			l, e = brake.LeastOf(track, b, stop)
			isList(t, l, e, least...)
			if curve[0] == -1 {
				none++
			} else if curve[0] < limitAt(track, 0) {
				some++
			}
		}
	})
	if none < 500 || some < 500 {
		t.Error(none, some)
	}
}

// P5.2: a curve is the greatest squares from which a braked train stands at the end of the stop's piece, if it brakes
// no more than it can.
func TestCurvesAreGreatest(t *testing.T) {
	eachRide(func(r *rand.Rand, m most, track api.BrakeTrack, b api.BrakeSystem) {
		if m != small {
			return
		}
		for _, stop := range stopsIn(track) {
			curve, _ := brake.CurveOf(track, b, stop)
			next := []int{0}
			for post := stop; post >= 0; post-- {
				var here []int
				for square := range limitAt(track, post) + 1 {
					lost := lossOf(track.Pieces[post], b.Brake)
					if slices.ContainsFunc(next, func(behind int) bool { return square-behind <= lost }) {
						here = append(here, square)
					}
				}
				want := -1
				if len(here) > 0 {
					want = here[len(here)-1]
				}
				if curve[post] != want {
					t.Fatal(track, b, stop, curve, post, want)
				}
				next = here
			}
		}
	})
}

// P5.3
func TestRunTo(t *testing.T) {
	for _, c := range []struct {
		name         string
		track        api.BrakeTrack
		post, square int
		stop         int
		want         []int
		err          api.Errno
	}{
		{"example 4", example(), 0, 3000, 1, []int{3000, 1000}, api.OK},
		{"example 4", example(), 0, 3000, 3, nil, api.ErrNone},
		{"example 4", example(), 0, 1000, 1, nil, api.ErrNone},
		{"example 4", example(), 0, 1000, 3, nil, api.ErrNone},
		{"example 4", example(), 0, 5000, 1, []int{5000, 3000}, api.OK},
		{"example 4", example(), 0, 5000, 3, []int{5000, 3000, 1000, 10000}, api.OK},
		{"at the curve", example(), 0, 10000, 1, []int{10000, 8000}, api.OK},
		{"above the curve", example(), 0, 10001, 1, nil, api.ErrBreak},
		{"held below the curve", example(), 0, 10000, 3, []int{10000, 8000, 6000, 10000}, api.OK},
		{"at the least square", example(), 0, 4000, 3, []int{4000, 2000, 0, 9000}, api.OK},
		{"below the least square", example(), 0, 3999, 3, nil, api.ErrNone},
		{"at the stop's own post", example(), 1, 8000, 1, []int{8000}, api.OK},
		{"at the stop's own post, standing", example(), 1, 0, 1, []int{0}, api.OK},
		{"at the stop's own post, too fast", example(), 1, 8001, 1, nil, api.ErrBreak},
		{"it rolls", example(), 2, 0, 3, []int{0, 9000}, api.OK},
		{"below 0 only on the way", example(), 1, 1999, 3, nil, api.ErrNone},
		{"just 0 on the way", example(), 1, 2000, 3, []int{2000, 0, 9000}, api.OK},
		{"a limit of 0", changed(example(), func(t *api.BrakeTrack) { t.Pieces[2].Limit = 0 }), 1, 2000, 3, []int{2000, 0, 0}, api.OK},
		{"not held, and standing", changed(example(), func(t *api.BrakeTrack) { t.Pieces[3].Gradient = -11 }), 3, 0, 3, nil, api.ErrBreak},
		{"just held", changed(example(), func(t *api.BrakeTrack) { t.Pieces[3].Gradient = -10 }), 3, 0, 3, []int{0}, api.OK},
		{"just held, but not standing", changed(example(), func(t *api.BrakeTrack) { t.Pieces[3].Gradient = -10 }), 3, 1, 3, nil, api.ErrBreak},
	} {
		x := api.BrakeRun{Post: c.post, Square: c.square}
		l, e := brake.RunTo(c.track, system(), x, c.stop)
		if e != c.err || !slices.Equal(l, c.want) {
			t.Error(c, l, e)
		}
		if is, e := brake.Reaches(c.track, system(), x, c.stop); e != api.OK || is != (c.err == api.OK) {
			t.Error(c, is, e)
		}
	}
}

// P5.3
func TestStopsOf(t *testing.T) {
	for _, c := range []struct {
		x    api.BrakeRun
		want []int
	}{
		{api.BrakeRun{Post: 0, Square: 1000}, nil},
		{api.BrakeRun{Post: 0, Square: 1999}, nil},
		{api.BrakeRun{Post: 0, Square: 2000}, []int{1}},
		{api.BrakeRun{Post: 0, Square: 3999}, []int{1}},
		{api.BrakeRun{Post: 0, Square: 5000}, []int{1, 3}},
		{api.BrakeRun{Post: 0, Square: 10001}, nil},
		{api.BrakeRun{Post: 1, Square: 0}, []int{1}},
		{api.BrakeRun{Post: 1, Square: 2000}, []int{1, 3}},
		{api.BrakeRun{Post: 2, Square: 0}, []int{3}},
		{api.BrakeRun{Post: 2, Square: 8000}, []int{3}},
		{api.BrakeRun{Post: 2, Square: 8001}, nil},
		{api.BrakeRun{Post: 3, Square: 20000000000}, nil},
		{api.BrakeRun{Post: 4, Square: 0}, nil},
		{api.BrakeRun{Post: 4, Square: 20000000000}, nil},
	} {
		l, e := brake.StopsOf(example(), system(), c.x)
		if e != api.OK || !slices.Equal(l, c.want) {
			t.Error(c, l, e)
		}
	}
	l, e := brake.StopsOf(one(api.BrakePiece{Length: 1}), system(), api.BrakeRun{})
	isList(t, l, e)
}

// P5.3
func TestGreatestAt(t *testing.T) {
	for post, want := range []int{10000, 8000, 8000, 10000} {
		n, e := brake.GreatestAt(example(), system(), post)
		isNumber(t, n, e, want)
	}
	// the stop 1 is reached with 1000 at most; the stop 3 with more, but at 2 alone
	slow := api.BrakeSystem{Brake: 20, Drag: 20}
	for post, want := range []int{8000, 4000, 0, 8000} {
		n, e := brake.GreatestAt(example(), slow, post)
		isNumber(t, n, e, want)
	}
	for name, c := range map[string]api.BrakeTrack{
		"no stops":          changed(example(), func(t *api.BrakeTrack) { t.Pieces[1].Leave, t.Pieces[3].Leave = false, false }),
		"none that is held": changed(example(), func(t *api.BrakeTrack) { t.Pieces[1].Leave, t.Pieces[3].Gradient = false, -11 }),
		"too slow for it":   changed(example(), func(t *api.BrakeTrack) { t.Pieces[1].Leave, t.Pieces[0].Gradient = false, 5 }),
	} {
		n, e := brake.GreatestAt(c, system(), 0)
		refused(t, name, n, e, api.ErrNone)
	}
	// at 0 the limit is 1000, and 2000 would be needed: from the next post on it is safe
	limited := changed(example(), func(t *api.BrakeTrack) { t.Pieces[0].Limit = 1000 })
	n, e := brake.GreatestAt(limited, system(), 0)
	refused(t, "limited", n, e, api.ErrNone)
	n, e = brake.GreatestAt(limited, system(), 1)
	isNumber(t, n, e, 1000)
	// a stop that cannot be reached does not count, though its curve is greater
	uphill := changed(example(), func(t *api.BrakeTrack) {
		t.Pieces[1].Limit, t.Pieces[2].Gradient = 10000, 10
	})
	n, e = brake.GreatestAt(uphill, api.BrakeSystem{Brake: 20, Drag: 20}, 1)
	isNumber(t, n, e, 4000)
}

// P5.3, by the definitions; P5.8: a train reaches a stop just if its square is from the least one to the curve, and the
// least one is at most the curve from there to the stop.
func TestReachingByDefinition(t *testing.T) {
	found := map[bool]int{}
	eachRide(func(r *rand.Rand, m most, track api.BrakeTrack, b api.BrakeSystem) {
		for post := range len(track.Pieces) + 1 {
			for _, square := range squaresNear(track, b, post) {
				x := api.BrakeRun{Post: post, Square: square}
				var want []int
				for _, stop := range stopsIn(track) {
					if stop < post {
						continue
					}
					is, e := brake.Reaches(track, b, x, stop)
					if e != api.OK || is != reaches(track, b, x, stop) || is != fits(t, track, b, x, stop) {
						t.Fatal(track, b, x, stop, is, e)
					}
					if is {
						want = append(want, stop)
					}
					found[is]++
				}
				l, e := brake.StopsOf(track, b, x)
				isList(t, l, e, want...)
			}
		}
	})
	if found[true] < 1000 || found[false] < 1000 {
		t.Error(found)
	}
}

// fits is whether a train reaches a stop, told by the curve and the least squares.
func fits(t *testing.T, track api.BrakeTrack, b api.BrakeSystem, x api.BrakeRun, stop int) bool {
	t.Helper()
	curve, e1 := brake.CurveOf(track, b, stop)
	least, e2 := brake.LeastOf(track, b, stop)
	if e1 != api.OK || e2 != api.OK {
		t.Fatal(track, b, stop, e1, e2)
	}
	for post := x.Post; post <= stop; post++ {
		if curve[post] == api.BrakeNone || least[post] > curve[post] {
			return false
		}
	}
	return least[x.Post] <= x.Square && x.Square <= curve[x.Post]
}

// P5.3: of all squares the greatest one that is safe.
func TestGreatestByTrying(t *testing.T) {
	none, below := 0, 0
	eachRide(func(r *rand.Rand, m most, track api.BrakeTrack, b api.BrakeSystem) {
		for post := range len(track.Pieces) + 1 {
			squares := squaresNear(track, b, post)
			if m == small {
				squares = nil
				for square := range 100 {
					squares = append(squares, square)
				}
			}
			want := -1
			for _, square := range squares {
				if isSafe(track, b, api.BrakeRun{Post: post, Square: square}) {
					want = square
				}
			}
			n, e := brake.GreatestAt(track, b, post)
			if want == -1 {
				refused(t, "none", n, e, api.ErrNone)
				none++
				continue
			}
			isNumber(t, n, e, want)
			if want < limitAt(track, post) {
				below++
			}
		}
	})
	if none < 500 || below < 500 {
		t.Error(none, below)
	}
}

// P5.9: where a run leads.
func TestRunsStopWhereTheyMay(t *testing.T) {
	runs := 0
	eachRide(func(r *rand.Rand, m most, track api.BrakeTrack, b api.BrakeSystem) {
		for post := range track.Pieces {
			for _, square := range squaresNear(track, b, post) {
				x := api.BrakeRun{Post: post, Square: square}
				stops, _ := brake.StopsOf(track, b, x)
				for _, stop := range stops {
					checkRun(t, track, b, x, stop)
					runs++
				}
			}
		}
	})
	if runs < 1000 {
		t.Error(runs)
	}
}

func checkRun(t *testing.T, track api.BrakeTrack, b api.BrakeSystem, x api.BrakeRun, stop int) {
	t.Helper()
	run, e := brake.RunTo(track, b, x, stop)
	if e != api.OK || len(run) != stop-x.Post+1 || run[0] != x.Square {
		t.Fatal(track, b, x, stop, run, e)
	}
	for i, square := range run {
		at := api.BrakeRun{Post: x.Post + i, Square: square}
		if is, e := brake.Reaches(track, b, at, stop); e != api.OK || !is || square > limitAt(track, at.Post) {
			t.Fatal(track, b, x, stop, run, at, e)
		}
	}
	if len(run) > 1 { // the part of the track that the run goes over
		part := changed(track, func(t *api.BrakeTrack) { t.Pieces = t.Pieces[x.Post:stop] })
		if n, e := brake.CheckSquares(part, b, run); e != api.OK {
			t.Fatal(track, b, x, stop, run, n, e)
		}
	}
	last := api.BrakeRun{Post: stop, Square: run[len(run)-1]}
	if b.Brake+10*track.Pieces[stop].Gradient == 0 { // it does not brake there, but stands already
		if last.Square != 0 {
			t.Fatal(track, b, x, stop, run)
		}
		return
	}
	places, _ := brake.Places(track)
	if stands, e := brake.StandsAt(track, b, last); e != api.OK || stands.Lo < places[stop] || stands.Hi > places[stop+1] {
		t.Fatal(track, b, x, stop, run, stands, e)
	}
}

// P5.11
func TestBetterBrakes(t *testing.T) {
	better := 0
	eachRide(func(r *rand.Rand, m most, track api.BrakeTrack, b api.BrakeSystem) {
		braking, dragging := b, b
		braking.Brake = oneOf(r, b.Brake, m.brake)
		dragging.Drag = oneOf(r, b.Drag, min(m.drag, b.Brake))
		for _, stop := range stopsIn(track) {
			before, _ := brake.CurveOf(track, b, stop)
			behind, e := brake.CurveOf(track, braking, stop)
			least, _ := brake.LeastOf(track, b, stop)
			more, e2 := brake.LeastOf(track, dragging, stop)
			if e != api.OK || e2 != api.OK {
				t.Fatal(track, braking, dragging, e, e2)
			}
			for i := range least {
				if behind[i] < before[i] || more[i] < least[i] {
					t.Fatal(track, b, braking, dragging, before, behind, least, more)
				}
				if behind[i] > before[i] {
					better++
				}
			}
		}
		for post := range len(track.Pieces) + 1 {
			for _, square := range squaresNear(track, b, post) {
				x := api.BrakeRun{Post: post, Square: square}
				before, _ := brake.StopsOf(track, b, x)
				behind, e := brake.StopsOf(track, braking, x)
				if e != api.OK || len(before) > 0 && len(behind) == 0 {
					t.Fatal(track, b, braking, x, before, behind, e)
				}
			}
		}
	})
	if better < 500 {
		t.Error(better)
	}
}

// Chapter 5, "More exactly": a slow train may come too short for one stop, and be too fast for the stop before.
func TestSafeSquaresMayHaveGaps(t *testing.T) {
	track := api.BrakeTrack{Name: "gap", Pieces: []api.BrakePiece{
		{Length: 10, Limit: 10000, Leave: true}, {Length: 100, Limit: 10000}, {Length: 100, Limit: 10000, Leave: true},
	}}
	for square, want := range map[int][]int{0: {0}, 2000: {0}, 2001: nil, 2199: nil, 2200: {2}, 10000: {2}, 10001: nil} {
		l, e := brake.StopsOf(track, system(), api.BrakeRun{Square: square})
		isList(t, l, e, want...)
	}
}
