package brake_test

import (
	"math"
	"slices"
	"testing"

	"guideway/api"
	"guideway/brake"
)

// wrongTrack is a track with its error, and the piece that it names.
type wrongTrack struct {
	name  string
	track api.BrakeTrack
	piece int
	err   api.Errno
}

// wrongTracks are tracks with each error, also with several.
func wrongTracks() []wrongTrack {
	var out []wrongTrack
	add := func(name string, piece int, err api.Errno, change func(*api.BrakeTrack)) {
		out = append(out, wrongTrack{name, changed(example(), change), piece, err})
	}
	for _, name := range []string{"", "1", "-", "-a", "abcdefghijklm", "a b", "a_", "a.", "ä", "a\n", " a", "a\x00", "[", "`", "{", "@", "a/", "a:"} {
		add("name "+name, 0, api.ErrName, func(t *api.BrakeTrack) { t.Name = name })
		add("no pieces, name "+name, 0, api.ErrName, func(t *api.BrakeTrack) { t.Name, t.Pieces = name, nil })
		add("13, name "+name, 0, api.ErrName, func(t *api.BrakeTrack) { t.Name, t.Pieces = name, make([]api.BrakePiece, 13) })
		add("piece, name "+name, 0, api.ErrName, func(t *api.BrakeTrack) { t.Name, t.Pieces[2].Length = name, 0 })
	}
	add("nil", 0, api.ErrShape, func(t *api.BrakeTrack) { t.Pieces = nil })
	add("empty", 0, api.ErrShape, func(t *api.BrakeTrack) { t.Pieces = []api.BrakePiece{} })
	add("13", 0, api.ErrLarge, func(t *api.BrakeTrack) { t.Pieces = slices.Repeat(t.Pieces[:1], 13) })
	add("13, wrong", 0, api.ErrLarge, func(t *api.BrakeTrack) { t.Pieces = make([]api.BrakePiece, 13) })
	for piece := range 4 {
		for _, n := range outside(1, 10000000) {
			add("length", piece, api.ErrRange, func(t *api.BrakeTrack) { t.Pieces[piece].Length = n })
			add("lengths", piece, api.ErrRange, func(t *api.BrakeTrack) { t.Pieces[piece].Length, t.Pieces[3].Length = n, n })
		}
		for _, n := range append(outside(-100, 100), math.MinInt+1) {
			add("gradient", piece, api.ErrRange, func(t *api.BrakeTrack) { t.Pieces[piece].Gradient = n })
			add("gradient, limit", piece, api.ErrRange, func(t *api.BrakeTrack) { t.Pieces[piece].Gradient, t.Pieces[3].Limit = n, -1 })
		}
		for _, n := range outside(0, 20000000000) {
			add("limit", piece, api.ErrRange, func(t *api.BrakeTrack) { t.Pieces[piece].Limit = n })
		}
	}
	return out
}

// wrongSystem is a system with its error.
type wrongSystem struct {
	system api.BrakeSystem
	err    api.Errno
}

func wrongSystems() []wrongSystem {
	out := []wrongSystem{
		{api.BrakeSystem{}, api.ErrRange},
		{api.BrakeSystem{Brake: 10, Drag: 11}, api.ErrOrder},
		{api.BrakeSystem{Brake: 1, Drag: 500, Drive: 2000}, api.ErrOrder},
		{api.BrakeSystem{Brake: 499, Drag: 500}, api.ErrOrder},
		{api.BrakeSystem{Brake: 10, Drag: 11, Drive: 2001}, api.ErrRange},
		{api.BrakeSystem{Brake: 10, Drag: 11, Drive: -1}, api.ErrRange},
		{api.BrakeSystem{Brake: 0, Drag: 11}, api.ErrRange},
		{api.BrakeSystem{Brake: 10, Drag: 501}, api.ErrRange},
	}
	for _, n := range outside(1, 3000) {
		out = append(out, wrongSystem{api.BrakeSystem{Brake: n, Drag: 10, Drive: 50}, api.ErrRange})
	}
	for _, n := range outside(0, 500) {
		out = append(out, wrongSystem{api.BrakeSystem{Brake: 1000, Drag: n, Drive: 50}, api.ErrRange})
	}
	for _, n := range outside(0, 2000) {
		out = append(out, wrongSystem{api.BrakeSystem{Brake: 100, Drag: 10, Drive: n}, api.ErrRange})
	}
	return out
}

func trackFaults() []fault {
	var out []fault
	for _, w := range wrongTracks() {
		out = append(out, fault{"track, " + w.name, func(a *arguments) { a.t = w.track }, w.err})
	}
	return out
}

func otherFaults() []fault {
	var out []fault
	for _, w := range wrongTracks() {
		out = append(out, fault{"other track, " + w.name, func(a *arguments) { a.other = w.track }, w.err})
	}
	return out
}

func systemFaults() []fault {
	var out []fault
	for _, w := range wrongSystems() {
		out = append(out, fault{"system", func(a *arguments) { a.b = w.system }, w.err})
	}
	return out
}

func stateFaults() []fault {
	var out []fault
	for _, n := range outside(0, 4) {
		out = append(out,
			fault{"state, post", func(a *arguments) { a.x.Post = n }, api.ErrMissing},
			fault{"state, both", func(a *arguments) { a.x = api.BrakeRun{Post: n, Square: -1} }, api.ErrMissing})
	}
	for _, n := range outside(0, 20000000000) {
		out = append(out,
			fault{"state, square", func(a *arguments) { a.x = api.BrakeRun{Square: n} }, api.ErrRange},
			fault{"state, square at the last post", func(a *arguments) { a.x = api.BrakeRun{Post: 4, Square: n} }, api.ErrRange})
	}
	return out
}

func postFaults() []fault {
	var out []fault
	for _, n := range outside(0, 4) {
		out = append(out, fault{"post", func(a *arguments) { a.post = n }, api.ErrMissing})
	}
	// none is safe at the last post
	return append(out, fault{"post, last", func(a *arguments) { a.post = 4 }, api.ErrNone})
}

func stopFaults() []fault {
	out := []fault{
		{"stop 0", func(a *arguments) { a.stop = 0 }, api.ErrKind},
		{"stop 2", func(a *arguments) { a.stop = 2 }, api.ErrKind},
	}
	for _, n := range outside(0, 3) {
		out = append(out, fault{"stop", func(a *arguments) { a.stop = n }, api.ErrMissing})
	}
	return out
}

func orderFaults() []fault {
	return []fault{
		{"order, 2", func(a *arguments) { a.x.Post = 2 }, api.ErrOrder},
		{"order, 4", func(a *arguments) { a.x.Post = 4 }, api.ErrOrder},
	}
}

func breakFaults() []fault {
	return []fault{
		{"above the curve", func(a *arguments) { a.x.Square = 10001 }, api.ErrBreak},
		{"far above the curve", func(a *arguments) { a.x.Square = 20000000000 }, api.ErrBreak},
		{"a curve that is none", func(a *arguments) { a.t.Pieces[1].Gradient = -11 }, api.ErrBreak},
	}
}

func comeShortFaults() []fault {
	return []fault{
		{"too slow", func(a *arguments) { a.x.Square = 1999 }, api.ErrNone},
		{"standing", func(a *arguments) { a.x.Square = 0 }, api.ErrNone},
	}
}

func rollFaults() []fault {
	return []fault{
		{"too fast", func(a *arguments) { a.x.Square = 80001 }, api.ErrNone},
		{"at the last post", func(a *arguments) { a.x = api.BrakeRun{Post: 4} }, api.ErrNone},
	}
}

func squaresFaults() []fault {
	out := []fault{
		{"squares, none", func(a *arguments) { a.squares = nil }, api.ErrShape},
		{"squares, empty", func(a *arguments) { a.squares = []int{} }, api.ErrShape},
		{"squares, one less", func(a *arguments) { a.squares = []int{1, 2, 3, 4} }, api.ErrShape},
		{"squares, one more", func(a *arguments) { a.squares = []int{1, 2, 3, 4, 5, 6} }, api.ErrShape},
		{"squares, wrong one", func(a *arguments) { a.squares = []int{-1} }, api.ErrShape},
	}
	for i := range 5 {
		for _, n := range outside(0, 20000000000) {
			out = append(out, fault{"squares", func(a *arguments) {
				a.squares = []int{0, 0, 0, 0, 0}
				a.squares[i] = n
			}, api.ErrRange})
		}
	}
	return out
}

func endsFaults() []fault {
	var out []fault
	for _, n := range outside(0, 20000000000) {
		out = append(out,
			fault{"ends, first", func(a *arguments) { a.ends = [2]int{n, 0} }, api.ErrRange},
			fault{"ends, second", func(a *arguments) { a.ends = [2]int{10001, n} }, api.ErrRange},
			fault{"ends, both", func(a *arguments) { a.ends = [2]int{n, n} }, api.ErrRange})
	}
	return out
}

func noneFaults() []fault {
	return []fault{{"above the limit", func(a *arguments) { a.ends = [2]int{10001, 0} }, api.ErrNone}}
}

func zeroFaults() []fault {
	var out []fault
	for i := range 4 {
		out = append(out, fault{"zeros", func(a *arguments) {
			a.squares = []int{1, 1, 1, 1, 1}
			a.squares[i], a.squares[i+1] = 0, 0
		}, api.ErrZero})
	}
	return append(out, fault{"all zeros", func(a *arguments) { a.squares = make([]int, 5) }, api.ErrZero})
}

func longFaults() []fault {
	return []fault{{"13 pieces", func(a *arguments) { a.other = changed(longest(0), func(t *api.BrakeTrack) { t.Pieces = t.Pieces[:9] }) }, api.ErrLarge}}
}

// P5.1 to P5.7, R1: each error of each function; the one that is listed first counts, whatever is wrong besides.
func TestErrors(t *testing.T) {
	for _, f := range functions() {
		if _, e := f.call(right()); e != api.OK {
			t.Error(f.name, e)
		}
		for i, list := range f.faults {
			for _, first := range list {
				a := right()
				first.change(&a)
				result, e := f.call(a)
				refused(t, f.name+": "+first.name, result, e, first.want)
				for _, second := range slices.Concat(f.faults[i+1:]...) {
					b := right()
					second.change(&b)
					first.change(&b)
					result, e := f.call(b)
					refused(t, f.name+": "+first.name+" ahead of "+second.name, result, e, first.want)
				}
			}
		}
	}
}

// P5.1
func TestCheckTrack(t *testing.T) {
	ends := api.BrakeTrack{Name: "a", Pieces: []api.BrakePiece{
		{Length: 1, Gradient: -100, Limit: 0}, {Length: 10000000, Gradient: 100, Limit: 20000000000, Leave: true},
	}}
	for _, c := range []api.BrakeTrack{
		example(), ends, longest(0), longest(100), longest(-100), one(api.BrakePiece{Length: 1}),
		{Name: "Z-0-9-azAZ--", Pieces: ends.Pieces},
	} {
		if n, e := brake.CheckTrack(c); n != 0 || e != api.OK {
			t.Error(c, n, e)
		}
	}
	for _, w := range wrongTracks() {
		if n, e := brake.CheckTrack(w.track); n != w.piece || e != w.err {
			t.Error(w, n, e)
		}
	}
}

// P5.1
func TestCheckSystem(t *testing.T) {
	for _, b := range []api.BrakeSystem{
		system(), {Brake: 1}, {Brake: 1, Drag: 1}, {Brake: 3000, Drag: 500, Drive: 2000}, {Brake: 500, Drag: 500}, {Brake: 1, Drive: 2000},
	} {
		if e := brake.CheckSystem(b); e != api.OK {
			t.Error(b, e)
		}
	}
	for _, w := range wrongSystems() {
		if e := brake.CheckSystem(w.system); e != w.err {
			t.Error(w, e)
		}
	}
}
