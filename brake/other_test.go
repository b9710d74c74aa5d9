package brake_test

import (
	"math/rand"
	"slices"
	"testing"

	"guideway/api"
	"guideway/brake"
)

// P5.6
func TestReversed(t *testing.T) {
	got, e := brake.Reversed(example())
	want := api.BrakeTrack{Name: "t", Pieces: []api.BrakePiece{
		{Length: 200, Limit: 10000, Leave: true},
		{Length: 50, Gradient: 10, Limit: 10000},
		{Length: 100, Limit: 8000, Leave: true},
		{Length: 100, Limit: 10000},
	}}
	if e != api.OK || !same(got, want) {
		t.Error(got, e)
	}
	single := one(api.BrakePiece{Length: 1, Gradient: 100, Limit: 3})
	if got, e := brake.Reversed(single); e != api.OK || !same(got, one(api.BrakePiece{Length: 1, Gradient: -100, Limit: 3})) {
		t.Error(got, e)
	}
}

// P5.6
func TestJoined(t *testing.T) {
	behind := api.BrakeTrack{Name: "b", Pieces: []api.BrakePiece{{Length: 9, Gradient: 8, Limit: 7, Leave: true}, {Length: 6}}}
	got, e := brake.Joined(example(), behind)
	if want := (api.BrakeTrack{Name: "t", Pieces: append(example().Pieces, behind.Pieces...)}); e != api.OK || !same(got, want) {
		t.Error(got, e)
	}
	got, e = brake.Joined(behind, example())
	if want := (api.BrakeTrack{Name: "b", Pieces: append(slices.Clone(behind.Pieces), example().Pieces...)}); e != api.OK || !same(got, want) {
		t.Error(got, e)
	}
	for pieces := 1; pieces <= 12; pieces++ {
		long := changed(longest(0), func(t *api.BrakeTrack) { t.Pieces = t.Pieces[:pieces] })
		got, e := brake.Joined(example(), long)
		if pieces > 8 {
			refused(t, "long", got, e, api.ErrLarge)
		} else if e != api.OK || len(got.Pieces) != 4+pieces {
			t.Error(pieces, got, e)
		}
	}
}

// P5.6: the errors of the first track come ahead of those of the second one.
func TestJoinedErrors(t *testing.T) {
	for _, first := range wrongTracks() {
		for _, second := range wrongTracks() {
			got, e := brake.Joined(first.track, second.track)
			refused(t, first.name+", "+second.name, got, e, first.err)
		}
	}
}

// P5.12
func TestBehindOneAnother(t *testing.T) {
	joinedOnes := 0
	eachRide(func(r *rand.Rand, m most, track api.BrakeTrack, b api.BrakeSystem) {
		reversed, e := brake.Reversed(track)
		twice, e2 := brake.Reversed(reversed)
		if e != api.OK || e2 != api.OK || !same(twice, track) {
			t.Fatal(track, reversed, twice, e, e2)
		}
		other := m.track(r)
		joined, e := brake.Joined(track, other)
		if len(track.Pieces)+len(other.Pieces) > 12 {
			refused(t, "long", joined, e, api.ErrLarge)
			return
		}
		joinedOnes++
		want, _ := brake.Places(track)
		begin := want[len(want)-1]
		behind, _ := brake.Places(other)
		for _, place := range behind[1:] {
			want = append(want, begin+place)
		}
		if l, e2 := brake.Places(joined); e != api.OK || e2 != api.OK || !slices.Equal(l, want) {
			t.Fatal(track, other, joined, e, l, e2)
		}
	})
	if joinedOnes < 1000 {
		t.Error(joinedOnes)
	}
}

// R3: no function writes into its arguments.
func TestArgumentsAreKept(t *testing.T) {
	for _, f := range functions() {
		a := right()
		// room behind the lists, in which something may be written
		a.t.Pieces = append(slices.Grow(a.t.Pieces, 9), api.BrakePiece{Length: 5})[:4]
		a.other.Pieces = append(slices.Grow(a.other.Pieces, 9), api.BrakePiece{Length: 5})[:4]
		a.squares = append(slices.Grow(a.squares, 9), 5)[:5]
		f.call(a)
		if !same(a.t, example()) || !same(a.other, example()) || !slices.Equal(a.squares, right().squares) {
			t.Error(f.name, a)
		}
		if a.t.Pieces[:5][4].Length != 5 || a.other.Pieces[:5][4].Length != 5 || a.squares[:6][5] != 5 {
			t.Error(f.name, "writes behind an argument")
		}
	}
}

// R3: results share no memory with arguments, nor with other results.
func TestResultsAreNew(t *testing.T) {
	for _, f := range functions() {
		a := right()
		first, _ := f.call(a)
		second, _ := f.call(a)
		switch x := first.(type) {
		case []int:
			for i := range x {
				x[i] = -7
			}
			if slices.Contains(second.([]int), -7) {
				t.Error(f.name)
			}
		case api.BrakeTrack:
			for i := range x.Pieces {
				x.Pieces[i].Length = -7
			}
			for _, piece := range second.(api.BrakeTrack).Pieces {
				if piece.Length == -7 {
					t.Error(f.name)
				}
			}
		}
		if !same(a.t, example()) || !same(a.other, example()) || !slices.Equal(a.squares, right().squares) {
			t.Error(f.name, a)
		}
	}
}

// R2: nothing panics, whatever the arguments are; R1: beside an error all is zero.
func TestNothingPanics(t *testing.T) {
	r := rand.New(rand.NewSource(1))
	number := func() int {
		return []int{-1, 0, 1, 2, 4, 5, 12, 13, 100, 10000000, 20000000000, 20000000001, -1 << 63, 1<<63 - 1}[r.Intn(14)]
	}
	pieces := func() []api.BrakePiece {
		if r.Intn(3) > 0 {
			return example().Pieces
		}
		l := make([]api.BrakePiece, r.Intn(15))
		for i := range l {
			l[i] = api.BrakePiece{Length: number(), Gradient: number(), Limit: number(), Leave: r.Intn(2) == 0}
		}
		return l
	}
	all := functions()
	for range 3000 {
		a := arguments{
			t: api.BrakeTrack{Name: "t", Pieces: pieces()}, other: api.BrakeTrack{Name: "u", Pieces: pieces()}, b: system(),
			x: api.BrakeRun{Post: number(), Square: number()}, stop: number(), post: number(), ends: [2]int{number(), number()},
		}
		if r.Intn(3) == 0 {
			a.b = api.BrakeSystem{Brake: number(), Drag: number(), Drive: number()}
		}
		for range r.Intn(7) {
			a.squares = append(a.squares, number())
		}
		for _, f := range all {
			if result, e := f.call(a); e != api.OK && e != api.ErrBreak && !isZero(result) {
				t.Fatal(f.name, a, result, e)
			}
		}
	}
}
