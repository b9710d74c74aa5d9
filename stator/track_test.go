package stator_test

import (
	"math"
	"math/rand"
	"slices"
	"testing"

	"guideway/api"
	"guideway/stator"
)

// two, middle and feed are the track of the chapter's examples, the train on it, and what feeds it.
func two() api.StatorTrack {
	return api.StatorTrack{Lengths: []int{1000, 500}}
}

func middle() api.StatorTrain {
	return api.StatorTrain{Place: 800, Length: 400}
}

func feed() api.StatorFeed {
	return api.StatorFeed{Currents: []api.Third{{B: 1}, {B: 2}}, Flux: api.Third{A: 1}, Move: 100}
}

// P3.3
func TestCheckTrack(t *testing.T) {
	long := slices.Repeat([]int{api.MaxStatorLength}, 12)
	for _, c := range []struct {
		lengths []int
		number  int
		want    api.Errno
	}{
		{two().Lengths, 0, api.OK},
		{[]int{1}, 0, api.OK},
		{[]int{1000000}, 0, api.OK},
		{long, 0, api.OK},
		{nil, 0, api.ErrShape},
		{[]int{}, 0, api.ErrShape},
		{append(slices.Clone(long), 1), 0, api.ErrLarge},
		{make([]int, 13), 0, api.ErrLarge},
		{[]int{0}, 0, api.ErrRange},
		{[]int{1000, 0}, 1, api.ErrRange},
		{[]int{1, 2, -3, 4}, 2, api.ErrRange},
		{[]int{1, 1000001, 0}, 1, api.ErrRange},
		{[]int{5, 6, math.MinInt}, 2, api.ErrRange},
		{[]int{math.MaxInt, math.MaxInt}, 0, api.ErrRange},
		{append(slices.Clone(long[:11]), 1000001), 11, api.ErrRange},
	} {
		if n, e := stator.CheckTrack(api.StatorTrack{Lengths: c.lengths}); n != c.number || e != c.want {
			t.Error(c, n, e)
		}
	}
}

// P3.3
func TestOverlaps(t *testing.T) {
	three := api.StatorTrack{Lengths: []int{10, 1, 20}}
	for _, c := range []struct {
		t    api.StatorTrack
		x    api.StatorTrain
		want []int
	}{
		{two(), middle(), []int{200, 200}},
		{two(), api.StatorTrain{Place: 0, Length: 1500}, []int{1000, 500}},
		{two(), api.StatorTrain{Place: 0, Length: 1}, []int{1, 0}},
		{two(), api.StatorTrain{Place: 999, Length: 1}, []int{1, 0}},
		{two(), api.StatorTrain{Place: 1000, Length: 1}, []int{0, 1}},
		{two(), api.StatorTrain{Place: 1100, Length: 400}, []int{0, 400}},
		{three, api.StatorTrain{Place: 9, Length: 3}, []int{1, 1, 1}},
		{three, api.StatorTrain{Place: 10, Length: 1}, []int{0, 1, 0}},
		{three, api.StatorTrain{Place: 0, Length: 31}, []int{10, 1, 20}},
		{three, api.StatorTrain{Place: 11, Length: 20}, []int{0, 0, 20}},
		{api.StatorTrack{Lengths: []int{1000000, 1000000}}, api.StatorTrain{Place: 500000, Length: 1000000}, []int{500000, 500000}},
	} {
		if l, e := stator.Overlaps(c.t, c.x); !slices.Equal(l, c.want) || e != api.OK {
			t.Error(c, l, e)
		}
	}
}

// P3.3: millimetre by millimetre; they come to the train's length.
func TestOverlapsCount(t *testing.T) {
	eachTime(func(r *rand.Rand) {
		track, x := someTrack(r, 30)
		l, e := stator.Overlaps(track, x)
		if !slices.Equal(l, counted(track, x)) || e != api.OK {
			t.Fatal(track, x, l, e)
		}
		total := 0
		for _, overlap := range l {
			total += overlap
		}
		if total != x.Length {
			t.Fatal(track, x, l)
		}
	})
}

// counted is the overlaps of a train, told by counting.
func counted(track api.StatorTrack, x api.StatorTrain) []int {
	out := make([]int, len(track.Lengths))
	place := 0
	for i, length := range track.Lengths {
		for range length {
			if place >= x.Place && place < x.Place+x.Length {
				out[i]++
			}
			place++
		}
	}
	return out
}

// someTrack is a right track, and a train on it.
func someTrack(r *rand.Rand, most int) (api.StatorTrack, api.StatorTrain) {
	var track api.StatorTrack
	total := 0
	for range between(r, 1, api.MaxStatorSections) {
		track.Lengths = append(track.Lengths, oneOf(r, 1, most))
		total += track.Lengths[len(track.Lengths)-1]
	}
	x := api.StatorTrain{Length: oneOf(r, 1, min(total, api.MaxStatorLength))}
	x.Place = oneOf(r, 0, total-x.Length)
	return track, x
}

func someFeed(r *rand.Rand, track api.StatorTrack) api.StatorFeed {
	most := someMost(r)
	f := api.StatorFeed{Flux: someVector(r, most)}
	for range track.Lengths {
		f.Currents = append(f.Currents, someVector(r, most))
	}
	return f
}

// roomBefore is how far a train may move on.
func roomBefore(track api.StatorTrack, x api.StatorTrain) int {
	room := -x.Place - x.Length
	for _, length := range track.Lengths {
		room += length
	}
	return room
}

// P3.3
func TestForceAt(t *testing.T) {
	backward := feed()
	backward.Currents = []api.Third{{B: -1}, {B: 1}}
	full := api.StatorFeed{Currents: []api.Third{{A: 100000, B: 100000}}, Flux: api.Third{A: 100000, B: -100000}}
	for _, c := range []struct {
		t    api.StatorTrack
		x    api.StatorTrain
		f    api.StatorFeed
		want int
	}{
		{two(), middle(), feed(), 600},
		{two(), api.StatorTrain{Place: 801, Length: 400}, feed(), 601},
		{two(), api.StatorTrain{Place: 0, Length: 1500}, feed(), 2000},
		{two(), api.StatorTrain{Place: 0, Length: 7}, feed(), 7},
		{two(), api.StatorTrain{Place: 1493, Length: 7}, feed(), 14},
		{two(), middle(), backward, 0},
		{two(), api.StatorTrain{Place: 799, Length: 400}, backward, -2},
		{api.StatorTrack{Lengths: []int{1000000}}, api.StatorTrain{Length: 1000000}, full, 20000000000000000},
	} {
		for _, move := range []int{0, 1, -1, 2000, 2001, math.MaxInt, math.MinInt} {
			c.f.Move = move
			if n, e := stator.ForceAt(c.t, c.x, c.f); n != c.want || e != api.OK {
				t.Error(c, n, e)
			}
		}
	}
	eachTime(func(r *rand.Rand) {
		track, x := someTrack(r, 30)
		f := someFeed(r, track)
		want := 0
		for i, overlap := range counted(track, x) {
			want += overlap * overFlux(f.Currents[i], f.Flux).B
		}
		if n, e := stator.ForceAt(track, x, f); n != want || e != api.OK {
			t.Fatal(track, x, f, n, e)
		}
	})
}

// P3.3
func TestGreatestStep(t *testing.T) {
	steps := api.StatorTrack{Lengths: []int{100, 50, 100}}
	for _, c := range []struct {
		t        api.StatorTrack
		x        api.StatorTrain
		currents []api.Third
		move     int
		want     int
	}{
		{two(), middle(), []api.Third{{B: 1}, {B: 2}}, 100, 1},
		{two(), middle(), []api.Third{{B: 1}, {B: 2}}, 300, 1},
		{two(), middle(), []api.Third{{B: 9}, {B: 2}}, 1, 7},
		{two(), middle(), []api.Third{{B: -9}, {B: 2}}, 1, 11},
		{two(), middle(), []api.Third{{B: 2}, {A: 5, B: 2}}, 300, 0},
		// the first step over a joint, and the one ahead of it
		{two(), api.StatorTrain{Place: 500, Length: 400}, []api.Third{{B: 1}, {B: 5}}, 100, 0},
		{two(), api.StatorTrain{Place: 500, Length: 400}, []api.Third{{B: 1}, {B: 5}}, 101, 4},
		// the last step over a joint, and the one behind it
		{two(), api.StatorTrain{Place: 999, Length: 400}, []api.Third{{B: 1}, {B: 5}}, 101, 4},
		{two(), api.StatorTrain{Place: 1000, Length: 400}, []api.Third{{B: 1}, {B: 5}}, 100, 0},
		// over the middle one both ends change at once, and what the middle one has does not count
		{steps, api.StatorTrain{Place: 20, Length: 70}, []api.Third{{B: 1}, {B: 9}, {B: 4}}, 160, 8},
		{steps, api.StatorTrain{Place: 80, Length: 70}, []api.Third{{B: 1}, {B: 9}, {B: 4}}, 20, 3},
		{steps, api.StatorTrain{Place: 80, Length: 70}, []api.Third{{B: 1}, {B: 9}, {B: 4}}, 21, 5},
		{steps, api.StatorTrain{Place: 80, Length: 70}, []api.Third{{B: 4}, {B: 9}, {B: 4}}, 20, 0},
	} {
		f := api.StatorFeed{Currents: c.currents, Flux: api.Third{A: 1}, Move: c.move}
		if n, e := stator.GreatestStep(c.t, c.x, f); n != c.want || e != api.OK {
			t.Error(c, n, e)
		}
	}
	long := api.StatorTrack{Lengths: []int{1000000, 1000000}}
	f := api.StatorFeed{
		Currents: []api.Third{{A: 100000, B: 100000}, {A: -100000, B: -100000}},
		Flux:     api.Third{A: 100000, B: -100000},
		Move:     2000,
	}
	if n, e := stator.GreatestStep(long, api.StatorTrain{Place: 500000, Length: 1000000}, f); n != 40000000000 || e != api.OK {
		t.Error(n, e)
	}
}

// P3.3, by the forces at all places; P3.12: no step is greater than the greatest difference of two forces.
func TestStepsAreDifferences(t *testing.T) {
	moved := 0
	eachTime(func(r *rand.Rand) {
		track, x := someTrack(r, 30)
		f := someFeed(r, track)
		room := min(roomBefore(track, x), api.MaxStatorMove)
		if room == 0 {
			return
		}
		moved++
		f.Move = oneOf(r, 1, room)
		want, most := 0, 0
		for k := range f.Move {
			before, e := stator.ForceAt(track, api.StatorTrain{Place: x.Place + k, Length: x.Length}, f)
			after, e2 := stator.ForceAt(track, api.StatorTrain{Place: x.Place + k + 1, Length: x.Length}, f)
			if e != api.OK || e2 != api.OK {
				t.Fatal(track, x, f, e, e2)
			}
			want = max(want, sizeOf(after-before))
		}
		for _, one := range f.Currents {
			for _, other := range f.Currents {
				most = max(most, forceOf(t, one, f.Flux)-forceOf(t, other, f.Flux))
			}
		}
		if n, e := stator.GreatestStep(track, x, f); n != want || n > most || e != api.OK {
			t.Fatal(track, x, f, n, e, want, most)
		}
	})
	if moved < 300 {
		t.Error(moved)
	}
}

// P3.12
func TestEvenCurrentsHaveNoStep(t *testing.T) {
	eachTime(func(r *rand.Rand) {
		track, x := someTrack(r, 30)
		first, flux := someVector(r, 1000), someVector(r, 1000)
		f := api.StatorFeed{Flux: flux, Move: roomBefore(track, x)}
		for range track.Lengths { // so many times the flux more have no force on it
			times := oneOf(r, -90, 90)
			f.Currents = append(f.Currents, sum(first, api.Third{A: times * flux.A, B: times * flux.B}))
		}
		if is, e := stator.Even(f.Currents, flux); !is || e != api.OK {
			t.Fatal(f, is, e)
		}
		if n, e := stator.ForceAt(track, x, f); n != x.Length*forceOf(t, first, flux) || e != api.OK {
			t.Fatal(track, x, f, n, e)
		}
		if f.Move == 0 {
			return
		}
		if n, e := stator.GreatestStep(track, x, f); n != 0 || e != api.OK {
			t.Fatal(track, x, f, n, e)
		}
	})
}

type wrongRide struct {
	name   string
	change func(*api.StatorTrack, *api.StatorTrain, *api.StatorFeed)
	want   api.Errno
}

// wrongTrains are changes of the examples that each function of a train refuses.
func wrongTrains() []wrongRide {
	out := []wrongRide{
		{"no sections", func(t *api.StatorTrack, x *api.StatorTrain, f *api.StatorFeed) { t.Lengths = nil }, api.ErrShape},
		{"13 sections", func(t *api.StatorTrack, x *api.StatorTrain, f *api.StatorFeed) {
			t.Lengths = slices.Repeat([]int{1000}, 13)
		}, api.ErrLarge},
		{"track, length", func(t *api.StatorTrack, x *api.StatorTrain, f *api.StatorFeed) { t.Lengths, x.Length = nil, 0 }, api.ErrShape},
		{"section", func(t *api.StatorTrack, x *api.StatorTrain, f *api.StatorFeed) { t.Lengths[1], x.Place = 0, 1400 }, api.ErrRange},
		{"one behind", func(t *api.StatorTrack, x *api.StatorTrain, f *api.StatorFeed) { x.Place = 1101 }, api.ErrOpen},
		{"longer", func(t *api.StatorTrack, x *api.StatorTrain, f *api.StatorFeed) { x.Place, x.Length = 0, 1501 }, api.ErrOpen},
		{"far", func(t *api.StatorTrack, x *api.StatorTrain, f *api.StatorFeed) { x.Place = math.MaxInt }, api.ErrOpen},
		{"far by a length", func(t *api.StatorTrack, x *api.StatorTrain, f *api.StatorFeed) { x.Place = math.MaxInt - 400 }, api.ErrOpen},
		{"length, open", func(t *api.StatorTrack, x *api.StatorTrain, f *api.StatorFeed) { x.Place, x.Length = 1500, 0 }, api.ErrRange},
		{"open, shape", func(t *api.StatorTrack, x *api.StatorTrain, f *api.StatorFeed) { x.Place, f.Currents = 1101, nil }, api.ErrOpen},
	}
	for _, length := range []int{0, -1, 1000001, math.MaxInt, math.MinInt} {
		out = append(out, wrongRide{"length", func(t *api.StatorTrack, x *api.StatorTrain, f *api.StatorFeed) { x.Length = length }, api.ErrRange})
	}
	for _, place := range []int{-1, -400, math.MinInt} {
		out = append(out, wrongRide{"place", func(t *api.StatorTrack, x *api.StatorTrain, f *api.StatorFeed) { x.Place = place }, api.ErrRange})
	}
	return out
}

// wrongFeeds are changes that each function of a feed refuses.
func wrongFeeds() []wrongRide {
	out := []wrongRide{
		{"no currents", func(t *api.StatorTrack, x *api.StatorTrain, f *api.StatorFeed) { f.Currents = nil }, api.ErrShape},
		{"empty", func(t *api.StatorTrack, x *api.StatorTrain, f *api.StatorFeed) { f.Currents = []api.Third{} }, api.ErrShape},
		{"one less", func(t *api.StatorTrack, x *api.StatorTrain, f *api.StatorFeed) { f.Currents = f.Currents[:1] }, api.ErrShape},
		{"one more", func(t *api.StatorTrack, x *api.StatorTrain, f *api.StatorFeed) { f.Currents = make([]api.Third, 3) }, api.ErrShape},
		{"shape, current", func(t *api.StatorTrack, x *api.StatorTrain, f *api.StatorFeed) {
			f.Currents = []api.Third{{A: 100001}}
		}, api.ErrShape},
		{"shape, flux", func(t *api.StatorTrack, x *api.StatorTrain, f *api.StatorFeed) { f.Currents, f.Flux.A = nil, 100001 }, api.ErrShape},
	}
	for _, v := range wrongVectors() {
		out = append(out,
			wrongRide{"flux", func(t *api.StatorTrack, x *api.StatorTrain, f *api.StatorFeed) { f.Flux = v }, api.ErrRange},
			wrongRide{"first current", func(t *api.StatorTrack, x *api.StatorTrain, f *api.StatorFeed) { f.Currents[0] = v }, api.ErrRange},
			wrongRide{"second current", func(t *api.StatorTrack, x *api.StatorTrain, f *api.StatorFeed) { f.Currents[1] = v }, api.ErrRange})
	}
	return out
}

// wrongMoves are changes that GreatestStep alone refuses.
func wrongMoves() []wrongRide {
	out := []wrongRide{
		{"one too far", func(t *api.StatorTrack, x *api.StatorTrain, f *api.StatorFeed) { f.Move = 301 }, api.ErrOpen},
		{"at the end", func(t *api.StatorTrack, x *api.StatorTrain, f *api.StatorFeed) { x.Place, f.Move = 1100, 1 }, api.ErrOpen},
		{"too far", func(t *api.StatorTrack, x *api.StatorTrain, f *api.StatorFeed) { f.Move = 2000 }, api.ErrOpen},
		{"flux, open", func(t *api.StatorTrack, x *api.StatorTrain, f *api.StatorFeed) { f.Flux.B, f.Move = 100001, 301 }, api.ErrRange},
		{"shape, move", func(t *api.StatorTrack, x *api.StatorTrain, f *api.StatorFeed) { f.Currents, f.Move = nil, 0 }, api.ErrShape},
		{"far on a long track", func(t *api.StatorTrack, x *api.StatorTrain, f *api.StatorFeed) {
			t.Lengths[0], f.Move = 1000000, 2001
		}, api.ErrRange},
	}
	for _, move := range []int{0, -1, 2001, math.MaxInt, math.MinInt} {
		out = append(out, wrongRide{"move", func(t *api.StatorTrack, x *api.StatorTrain, f *api.StatorFeed) { f.Move = move }, api.ErrRange})
	}
	return out
}

// P3.3
func TestRideErrors(t *testing.T) {
	trains, feeds, moves := wrongTrains(), wrongFeeds(), wrongMoves()
	for i, c := range slices.Concat(trains, feeds, moves) {
		track, x, f := two(), middle(), feed()
		c.change(&track, &x, &f)
		isTrain, isFeed := i < len(trains), i < len(trains)+len(feeds)
		if l, e := stator.Overlaps(track, x); isTrain {
			refused(t, c.name, l, e, c.want)
		} else if e != api.OK {
			t.Error(c.name, e)
		}
		if n, e := stator.ForceAt(track, x, f); isFeed {
			refused(t, c.name, n, e, c.want)
		} else if e != api.OK && c.name != "flux, open" && c.name != "shape, move" {
			t.Error(c.name, e)
		}
		n, e := stator.GreatestStep(track, x, f)
		refused(t, c.name, n, e, c.want)
	}
}

// R3
func TestTracksAreKept(t *testing.T) {
	track, x, f := two(), middle(), feed()
	l, _ := stator.Overlaps(track, x)
	l[0], l[1] = 7, 7
	if again, e := stator.Overlaps(track, x); !slices.Equal(again, []int{200, 200}) || e != api.OK {
		t.Error(again, e)
	}
	stator.CheckTrack(track)
	stator.ForceAt(track, x, f)
	stator.GreatestStep(track, x, f)
	if !slices.Equal(track.Lengths, two().Lengths) || x != middle() || !slices.Equal(f.Currents, feed().Currents) {
		t.Error(track, x, f)
	}
}
