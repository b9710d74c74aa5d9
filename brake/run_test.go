package brake_test

import (
	"math/big"
	"math/rand"
	"slices"
	"testing"

	"guideway/api"
	"guideway/brake"
)

// P5.4
func TestStandsAt(t *testing.T) {
	for _, c := range []struct {
		name         string
		track        api.BrakeTrack
		post, square int
		want         api.Range
		err          api.Errno
	}{
		{"example 5", example(), 0, 10000, api.Range{Lo: 50, Hi: 50}, api.OK},
		{"example 5", example(), 0, 25000, api.Range{Lo: 125, Hi: 125}, api.OK},
		{"rounded", example(), 0, 25001, api.Range{Lo: 125, Hi: 126}, api.OK},
		{"rounded", example(), 0, 25199, api.Range{Lo: 125, Hi: 126}, api.OK},
		{"rounded", example(), 0, 1, api.Range{Lo: 0, Hi: 1}, api.OK},
		{"standing", example(), 0, 0, api.Range{}, api.OK},
		{"standing", example(), 1, 0, api.Range{Lo: 100, Hi: 100}, api.OK},
		{"at the end of a piece", example(), 0, 20000, api.Range{Lo: 100, Hi: 100}, api.OK},
		{"at the end of the second piece", example(), 0, 40000, api.Range{Lo: 200, Hi: 200}, api.OK},
		{"just behind a piece that does not brake", example(), 0, 40001, api.Range{Lo: 250, Hi: 251}, api.OK},
		{"standing where it does not brake", example(), 2, 0, api.Range{Lo: 250, Hi: 250}, api.OK},
		{"at the end", example(), 3, 40000, api.Range{Lo: 450, Hi: 450}, api.OK},
		{"behind the end", example(), 3, 40001, api.Range{}, api.ErrNone},
		{"above the limits", example(), 0, 80000, api.Range{Lo: 450, Hi: 450}, api.OK},
		{"the greatest square", example(), 0, 20000000000, api.Range{}, api.ErrNone},
		{"at the last post", example(), 4, 0, api.Range{}, api.ErrNone},
		{"rolling off", changed(example(), func(t *api.BrakeTrack) { t.Pieces[3].Gradient = -11 }), 2, 0, api.Range{}, api.ErrNone},
		{"not braking at the end", changed(example(), func(t *api.BrakeTrack) { t.Pieces[3].Gradient = -10 }), 2, 0, api.Range{}, api.ErrNone},
		{"rolling on", changed(example(), func(t *api.BrakeTrack) { t.Pieces[2].Gradient = -20 }), 2, 0, api.Range{Lo: 300, Hi: 300}, api.OK},
		{"steep", changed(example(), func(t *api.BrakeTrack) { t.Pieces[0].Gradient = 100 }), 0, 220000, api.Range{Lo: 100, Hi: 100}, api.OK},
		{"far", longest(0), 0, 20000000000, api.Range{Lo: 100000000, Hi: 100000000}, api.OK},
		{"rolling far", changed(longest(-100), func(t *api.BrakeTrack) { t.Pieces[11].Gradient = 100 }), 0, 20000000000, api.Range{}, api.ErrNone},
	} {
		x := api.BrakeRun{Post: c.post, Square: c.square}
		if place, e := brake.StandsAt(c.track, system(), x); place != c.want || e != c.err {
			t.Error(c, place, e)
		}
	}
}

// standing is where a braked train stands, by the definition, and whether it does.
func standing(track api.BrakeTrack, b api.BrakeSystem, x api.BrakeRun) (*big.Rat, bool) {
	begin, square := 0, x.Square
	for i, piece := range track.Pieces {
		deceleration := b.Brake + 10*piece.Gradient
		if i >= x.Post && deceleration > 0 && 2*deceleration*piece.Length >= square {
			place := big.NewRat(int64(square), int64(2*deceleration))
			return place.Add(place, big.NewRat(int64(begin), 1)), true
		}
		if i >= x.Post {
			square -= 2 * deceleration * piece.Length
		}
		begin += piece.Length
	}
	return nil, false
}

// P5.4, by the definition. P5.12: a train that stands on the first part stands at the same place of a joined track.
func TestStandingByDefinition(t *testing.T) {
	found := map[bool]int{}
	eachRide(func(r *rand.Rand, m most, track api.BrakeTrack, b api.BrakeSystem) {
		other := m.track(r)
		joined, long := brake.Joined(track, other)
		for range 10 {
			x := api.BrakeRun{Post: oneOf(r, 0, len(track.Pieces)), Square: oneOf(r, 0, m.limit)}
			place, stands := standing(track, b, x)
			found[stands]++
			got, e := brake.StandsAt(track, b, x)
			if !stands {
				refused(t, "none", got, e, api.ErrNone)
				continue
			}
			down, up := big.NewRat(int64(got.Lo), 1), big.NewRat(int64(got.Hi), 1)
			if e != api.OK || down.Cmp(place) > 0 || up.Cmp(place) < 0 || got.Hi-got.Lo > 1 || got.Hi > got.Lo && place.IsInt() {
				t.Fatal(track, b, x, got, e, place)
			}
			if long != api.OK {
				continue
			}
			if again, e := brake.StandsAt(joined, b, x); e != api.OK || again != got {
				t.Fatal(joined, b, x, again, e, got)
			}
		}
	})
	if found[true] < 1000 || found[false] < 1000 {
		t.Error(found)
	}
}

// P5.5
func TestCheckSquares(t *testing.T) {
	rising := changed(example(), func(t *api.BrakeTrack) { t.Pieces[0].Gradient = 10 }) // the drive does not hold it there
	for _, c := range []struct {
		name    string
		track   api.BrakeTrack
		squares []int
		post    int
		err     api.Errno
	}{
		{"example 6", example(), []int{0, 8000, 8000, 10000, 0}, 0, api.OK},
		{"zeros", example(), []int{0, 0, 0, 0, 0}, 0, api.OK},
		{"limits", example(), []int{10000, 8000, 8000, 10000, 10000}, 0, api.OK},
		{"above the first limit", example(), []int{10001, 8000, 8000, 10000, 10000}, 0, api.ErrBreak},
		{"above the second limit", example(), []int{10000, 8001, 8000, 10000, 10000}, 1, api.ErrBreak},
		{"above the third limit", example(), []int{10000, 8000, 8001, 10001, 10001}, 2, api.ErrBreak},
		{"above the last limit", example(), []int{10000, 8000, 8000, 10000, 10001}, 4, api.ErrBreak},
		{"the least loss, rising", rising, []int{10000, 0, 0, 0, 0}, 0, api.OK},
		{"the drive, rising", rising, []int{10000, 1, 0, 0, 0}, 1, api.ErrBreak},
		{"the drive, rising, at 0", rising, []int{9999, 0, 0, 0, 0}, 1, api.ErrBreak},
	} {
		if n, e := brake.CheckSquares(c.track, system(), c.squares); n != c.post || e != c.err {
			t.Error(c, n, e)
		}
	}
}

// P5.5: up to which post, by the drive and by the brake.
func TestCheckSquaresAlong(t *testing.T) {
	free := changed(example(), func(t *api.BrakeTrack) {
		for i := range t.Pieces {
			t.Pieces[i].Limit = 20000000000
		}
	})
	// what the drive gains, and the brake loses, along each piece
	for piece, by := range [][2]int{{10000, 20000}, {10000, 20000}, {15000, 0}, {20000, 40000}} {
		for _, c := range []struct {
			gain int
			err  api.Errno
		}{
			{by[0], api.OK}, {by[0] + 1, api.ErrBreak}, {0, api.OK}, {-by[1], api.OK}, {-by[1] - 1, api.ErrBreak},
		} {
			squares := []int{50000, 50000, 50000, 50000, 50000}
			for i := piece + 1; i < len(squares); i++ {
				squares[i] += c.gain
			}
			want := 0
			if c.err != api.OK {
				want = piece + 1
			}
			if n, e := brake.CheckSquares(free, system(), squares); n != want || e != c.err {
				t.Error(piece, c, n, e)
			}
		}
	}
	far := api.BrakeSystem{Brake: 3000, Drive: 2000}
	falling := longest(-100)
	squares := append([]int{0}, slices.Repeat([]int{20000000000}, 12)...)
	if n, e := brake.CheckSquares(falling, far, squares); n != 0 || e != api.OK {
		t.Error(n, e)
	}
	squares[5] = 0
	if n, e := brake.CheckSquares(falling, far, squares); n != 0 || e != api.OK {
		t.Error(n, e)
	}
	far.Brake = 1999
	if n, e := brake.CheckSquares(falling, far, squares); n != 5 || e != api.ErrBreak {
		t.Error(n, e)
	}
}

// canRun is whether squares can be run, by the definition, or the first post that tells that they can not.
func canRun(track api.BrakeTrack, b api.BrakeSystem, squares []int) (int, bool) {
	for post, square := range squares {
		if square > limitAt(track, post) {
			return post, false
		}
		if post == 0 {
			continue
		}
		piece := track.Pieces[post-1]
		gain := square - squares[post-1]
		if gain > 2*(b.Drive-10*piece.Gradient)*piece.Length || -gain > lossOf(piece, b.Brake) {
			return post, false
		}
	}
	return 0, true
}

// someSquares are squares that can often be run.
func someSquares(r *rand.Rand, track api.BrakeTrack, b api.BrakeSystem) []int {
	var squares []int
	square := oneOf(r, 0, limitAt(track, 0))
	for post := range len(track.Pieces) + 1 {
		if post > 0 {
			piece := track.Pieces[post-1]
			square += oneOf(r, -lossOf(piece, b.Brake), 2*(b.Drive-10*piece.Gradient)*piece.Length)
		}
		square = max(0, min(square, limitAt(track, post)))
		if r.Intn(20) == 0 {
			square = min(20000000000, square+1)
		}
		squares = append(squares, square)
	}
	return squares
}

// P5.5, by the definition.
func TestCheckSquaresByDefinition(t *testing.T) {
	found := map[bool]int{}
	eachRide(func(r *rand.Rand, m most, track api.BrakeTrack, b api.BrakeSystem) {
		squares := someSquares(r, track, b)
		post, can := canRun(track, b, squares)
		found[can]++
		n, e := brake.CheckSquares(track, b, squares)
		if n != post || can != (e == api.OK) || !can && e != api.ErrBreak {
			t.Fatal(track, b, squares, n, e, post, can)
		}
	})
	if found[true] < 500 || found[false] < 500 {
		t.Error(found)
	}
}

// P5.5
func TestFastest(t *testing.T) {
	for _, c := range []struct {
		name  string
		track api.BrakeTrack
		ends  [2]int
		want  []int
		err   api.Errno
	}{
		{"example 6", example(), [2]int{0, 0}, []int{0, 8000, 8000, 10000, 0}, api.OK},
		{"a greater end", example(), [2]int{0, 20000000000}, []int{0, 8000, 8000, 10000, 10000}, api.OK},
		{"a greater end", example(), [2]int{0, 9999}, []int{0, 8000, 8000, 10000, 9999}, api.OK},
		{"a greater beginning", example(), [2]int{10000, 0}, []int{10000, 8000, 8000, 10000, 0}, api.OK},
		{"above the limit", example(), [2]int{10001, 0}, nil, api.ErrNone},
		{"far above the limit", example(), [2]int{20000000000, 20000000000}, nil, api.ErrNone},
		{"the drive", one(api.BrakePiece{Length: 10, Limit: 10000}), [2]int{100, 10000}, []int{100, 1100}, api.OK},
		{"the brake", one(api.BrakePiece{Length: 10, Limit: 10000}), [2]int{2100, 100}, []int{2100, 100}, api.OK},
		{"not held by the brake", one(api.BrakePiece{Length: 10, Limit: 10000}), [2]int{2101, 100}, nil, api.ErrNone},
		{"rising too much", one(api.BrakePiece{Length: 10, Gradient: 10, Limit: 10000}), [2]int{999, 10000}, nil, api.ErrNone},
		{"rising much", one(api.BrakePiece{Length: 10, Gradient: 10, Limit: 10000}), [2]int{1000, 10000}, []int{1000, 0}, api.OK},
		{"falling too much", one(api.BrakePiece{Length: 10, Gradient: -20, Limit: 1999}), [2]int{0, 10000}, nil, api.ErrNone},
		{"falling much", one(api.BrakePiece{Length: 10, Gradient: -20, Limit: 2000}), [2]int{0, 10000}, []int{0, 2000}, api.OK},
		{"a limit of 0", changed(example(), func(t *api.BrakeTrack) { t.Pieces[2].Limit = 0 }), [2]int{0, 0}, []int{0, 8000, 0, 0, 0}, api.OK},
	} {
		l, e := brake.Fastest(c.track, system(), c.ends)
		if e != c.err || !slices.Equal(l, c.want) {
			t.Error(c, l, e)
		}
	}
}

// eachSquares calls a function with all lists of squares that are within the limits of a track.
func eachSquares(track api.BrakeTrack, f func([]int)) {
	squares := make([]int, len(track.Pieces)+1)
	var from func(post int)
	from = func(post int) {
		if post == len(squares) {
			f(squares)
			return
		}
		for square := range limitAt(track, post) + 1 {
			squares[post] = square
			from(post + 1)
		}
	}
	from(0)
}

// P5.5, P5.10: of all squares that can be run, those that are the greatest everywhere.
func TestFastestByTrying(t *testing.T) {
	tiny := most{3, 2, 2, 8, 24, 5, 12}
	r := rand.New(rand.NewSource(1))
	found := map[bool]int{}
	for range 1500 {
		track, b := tiny.track(r), tiny.system(r)
		ends := [2]int{oneOf(r, 0, 9), oneOf(r, 0, 9)}
		var greatest []int
		eachSquares(track, func(squares []int) {
			last := len(squares) - 1
			if _, can := canRun(track, b, squares); !can || squares[0] != ends[0] || squares[last] > ends[1] {
				return
			}
			if greatest == nil {
				greatest = make([]int, len(squares))
			}
			for i, square := range squares {
				greatest[i] = max(greatest[i], square)
			}
		})
		found[greatest != nil]++
		l, e := brake.Fastest(track, b, ends)
		if greatest == nil {
			refused(t, "none", l, e, api.ErrNone)
			continue
		}
		isList(t, l, e, greatest...)
	}
	if found[true] < 200 || found[false] < 200 {
		t.Error(found)
	}
}

// P5.10: the fastest squares can be run, none that can be run are greater, and a greater end makes none less.
func TestNoneIsFaster(t *testing.T) {
	faster := 0
	eachRide(func(r *rand.Rand, m most, track api.BrakeTrack, b api.BrakeSystem) {
		squares := someSquares(r, track, b)
		if _, can := canRun(track, b, squares); !can {
			return
		}
		last := len(squares) - 1
		ends := [2]int{squares[0], oneOf(r, squares[last], m.limit)}
		l, e := brake.Fastest(track, b, ends)
		if e != api.OK || len(l) != len(squares) || l[0] != ends[0] || l[last] > ends[1] {
			t.Fatal(track, b, ends, l, e, squares)
		}
		if n, e := brake.CheckSquares(track, b, l); n != 0 || e != api.OK {
			t.Fatal(track, b, ends, l, n, e)
		}
		ends[1] = oneOf(r, ends[1], 20000000000)
		more, e := brake.Fastest(track, b, ends)
		if e != api.OK || len(more) != len(squares) {
			t.Fatal(track, b, ends, more, e)
		}
		for i, square := range squares {
			if l[i] < square || more[i] < l[i] {
				t.Fatal(track, b, ends, squares, l, more)
			}
			if l[i] > square {
				faster++
			}
		}
	})
	if faster < 500 {
		t.Error(faster)
	}
}

// P5.5
func TestFirstUnsafe(t *testing.T) {
	for _, c := range []struct {
		name    string
		squares []int
		want    int
	}{
		{"example 7", []int{0, 8000, 8000, 10000, 0}, 0},
		{"too fast", []int{10001, 8000, 8000, 10000, 0}, 0},
		{"none but the last one, where nothing is reached", []int{2000, 8000, 8000, 10000, 0}, 4},
		{"none but the last one", []int{2000, 0, 0, 0, 0}, 4},
		{"too fast at 1", []int{2000, 8001, 8001, 10000, 0}, 1},
		{"too fast at 2", []int{10000, 0, 8001, 10001, 0}, 2},
		{"too fast at 3", []int{10000, 0, 0, 10001, 0}, 3},
	} {
		n, e := brake.FirstUnsafe(example(), system(), c.squares)
		if e != api.OK || n != c.want {
			t.Error(c, n, e)
		}
	}
	eachRide(func(r *rand.Rand, m most, track api.BrakeTrack, b api.BrakeSystem) {
		var squares []int
		for post := range len(track.Pieces) + 1 {
			squares = append(squares, oneOf(r, 0, m.limit))
			if greatest, e := brake.GreatestAt(track, b, post); e == api.OK && r.Intn(5) > 0 {
				squares[post] = greatest
			}
		}
		want := -1
		for post := len(squares) - 1; post >= 0; post-- {
			if !isSafe(track, b, api.BrakeRun{Post: post, Square: squares[post]}) {
				want = post
			}
		}
		n, e := brake.FirstUnsafe(track, b, squares)
		isNumber(t, n, e, want)
	})
}

// P5.5
func TestTimeOf(t *testing.T) {
	hundred := one(api.BrakePiece{Length: 100, Limit: 10000})
	for _, c := range []struct {
		name    string
		track   api.BrakeTrack
		squares []int
		want    api.Range
	}{
		{"example 8", hundred, []int{0, 10000}, api.Range{Lo: 2000, Hi: 2000}},
		{"backward", hundred, []int{10000, 0}, api.Range{Lo: 2000, Hi: 2000}},
		{"even", hundred, []int{10000, 10000}, api.Range{Lo: 1000, Hi: 1000}},
		{"one root rounded", hundred, []int{0, 9999}, api.Range{Lo: 2000, Hi: 2021}},
		{"both roots rounded", hundred, []int{9999, 9999}, api.Range{Lo: 1000, Hi: 1011}},
		{"each root rounded by itself", hundred, []int{2, 2}, api.Range{Lo: 50000, Hi: 100000}},
		{"rounded", hundred, []int{1, 4}, api.Range{Lo: 66666, Hi: 66667}},
		{"slow", hundred, []int{0, 1}, api.Range{Lo: 200000, Hi: 200000}},
		{"above the limit", hundred, []int{20000000000, 20000000000}, api.Range{Lo: 0, Hi: 1}},
		{"as long as can be", longest(0), []int{0, 1, 0, 1, 0, 1, 0, 1, 0, 1, 0, 1, 0}, api.Range{Lo: 240000000000, Hi: 240000000000}},
		{"the greatest square", one(api.BrakePiece{Length: 10000000}), []int{0, 20000000000}, api.Range{Lo: 141420, Hi: 141422}},
		{"each piece rounded by itself", example(), []int{1, 4, 1, 4, 1}, api.Range{Lo: 66666 + 66666 + 33333 + 133333, Hi: 66667 + 66667 + 33334 + 133334}},
	} {
		if x, e := brake.TimeOf(c.track, c.squares); x != c.want || e != api.OK {
			t.Error(c, x, e)
		}
	}
}

// P5.5, by the definition.
func TestTimeByDefinition(t *testing.T) {
	zeros := 0
	eachRide(func(r *rand.Rand, m most, track api.BrakeTrack, b api.BrakeSystem) {
		squares := someSquares(r, track, b)
		var want api.Range
		for i, piece := range track.Pieces {
			if squares[i] == 0 && squares[i+1] == 0 {
				zeros++
				x, e := brake.TimeOf(track, squares)
				refused(t, "zeros", x, e, api.ErrZero)
				return
			}
			twice := 2000 * piece.Length
			down, up := 0, 0
			for _, square := range squares[i : i+2] {
				root := int(new(big.Int).Sqrt(big.NewInt(int64(square))).Int64())
				down += root
				up += root
				if root*root < square {
					up++
				}
			}
			want.Lo += twice / up
			want.Hi += twice / down
			if twice%down > 0 {
				want.Hi++
			}
		}
		if x, e := brake.TimeOf(track, squares); x != want || e != api.OK {
			t.Fatal(track, squares, x, e, want)
		}
	})
	if zeros == 0 || zeros > 2500 {
		t.Error(zeros)
	}
}
