package locate_test

import (
	"fmt"
	"math"
	"math/rand"
	"slices"
	"testing"

	"guideway/api"
	"guideway/locate"
)

// P4.1
func TestCheckTrack(t *testing.T) {
	least := api.LocateTrack{Vanes: []int{1}, Window: 1, Tooth: 1, PerVane: 1, Modulus: 1}
	most := api.LocateTrack{
		Vanes: slices.Repeat([]int{0, 1}, 20), Window: 12, Tooth: 1000, PerVane: 12, First: 999000000,
		Modulus: 1000, Slack: 1000, Errors: 12,
	}
	for name, x := range map[string]api.LocateTrack{
		"example": example(),
		"least":   least,
		"most":    most,
		"round":   changed(most, func(t *api.LocateTrack) { t.Round = true }),
		"slack":   changed(example(), func(t *api.LocateTrack) { t.Slack = t.Modulus }),
		"errors":  changed(example(), func(t *api.LocateTrack) { t.Errors = t.Window }),
		"all":     changed(example(), func(t *api.LocateTrack) { t.Window = 7 }),
	} {
		if n, e := locate.CheckTrack(x); n != 0 || e != api.OK {
			t.Error(name, n, e)
		}
	}
	for _, w := range wrongTracks() {
		before := changed(w.track, func(*api.LocateTrack) {})
		if n, e := locate.CheckTrack(w.track); n != w.vane || e != w.err {
			t.Error(w, n, e)
		}
		if !same(before, w.track) {
			t.Error("changed", w)
		}
	}
}

// P4.1 to P4.3: the error of the track is the first one of each function that has one.
func TestTrackErrors(t *testing.T) {
	for _, w := range wrongTracks() {
		for _, f := range ofTracks() {
			result, e := f.call(w.track)
			refused(t, f.name+" "+w.name, result, e, w.err)
		}
	}
}

// P4.1
func TestHowMany(t *testing.T) {
	for _, c := range []struct {
		vanes, window, per int
		round              bool
		windows, teeth     int
	}{
		{7, 3, 2, true, 7, 14},
		{7, 3, 2, false, 5, 10},
		{7, 7, 2, true, 7, 14},
		{7, 7, 2, false, 1, 2},
		{7, 1, 1, true, 7, 7},
		{7, 1, 1, false, 7, 7},
		{1, 1, 12, true, 1, 12},
		{1, 1, 12, false, 1, 12},
		{40, 12, 12, true, 40, 480},
		{40, 12, 12, false, 29, 348},
	} {
		x := example()
		x.Vanes, x.Window, x.PerVane, x.Round = make([]int, c.vanes), c.window, c.per, c.round
		if n, e := locate.WindowsOf(x); n != c.windows || e != api.OK {
			t.Error(c, n, e)
		}
		if n, e := locate.TeethOf(x); n != c.teeth || e != api.OK {
			t.Error(c, n, e)
		}
	}
}

// P4.1
func TestWindowAt(t *testing.T) {
	for i, want := range [][]int{{0, 0, 1}, {0, 1, 1}, {1, 1, 1}, {1, 1, 0}, {1, 0, 1}, {0, 1, 0}, {1, 0, 0}} {
		if l, e := locate.WindowAt(example(), i); !slices.Equal(l, want) || e != api.OK {
			t.Error(i, l, e)
		}
	}
	for _, round := range []bool{true, false} {
		x := changed(example(), func(t *api.LocateTrack) { t.Round = round })
		many, _ := locate.WindowsOf(x)
		for _, i := range outside(0, many-1) {
			l, e := locate.WindowAt(x, i)
			refused(t, fmt.Sprint(round, i), l, e, api.ErrMissing)
		}
	}
	eachTime(func(r *rand.Rand) {
		x := someTrack(r, 12, 40)
		windows := windowsIn(x)
		if n, e := locate.WindowsOf(x); n != len(windows) || e != api.OK {
			t.Fatal(x, n, e)
		}
		for i, window := range windows {
			if l, e := locate.WindowAt(x, i); !slices.Equal(l, window) || e != api.OK {
				t.Fatal(x, i, l, e)
			}
		}
	})
}

// R3, with P4.1: a window has memory of its own, and no room behind it.
func TestWindowsAreCopies(t *testing.T) {
	x := example()
	l, _ := locate.WindowAt(x, 2)
	if cap(l) != len(l) {
		t.Error(cap(l), len(l))
	}
	l[0] = 7
	if again, e := locate.WindowAt(x, 2); !slices.Equal(again, []int{1, 1, 1}) || !same(x, example()) || e != api.OK {
		t.Error(again, x, e)
	}
	x.Vanes[3] = 0
	if !slices.Equal(l, []int{7, 1, 1}) {
		t.Error(l)
	}
}

// P4.1
func TestToothAt(t *testing.T) {
	open := changed(example(), func(t *api.LocateTrack) { t.Round = false })
	for _, c := range []struct {
		track api.LocateTrack
		place int
		want  int
	}{
		{example(), 1000, 0}, {example(), 1099, 0}, {example(), 1100, 1}, {example(), 1750, 7}, {example(), 2399, 13},
		{open, 1000, 0}, {open, 1999, 9},
	} {
		if n, e := locate.ToothAt(c.track, c.place); n != c.want || e != api.OK {
			t.Error(c, n, e)
		}
	}
	for _, place := range []int{999, 2400, 0, -1, math.MinInt, math.MaxInt} {
		n, e := locate.ToothAt(example(), place)
		refused(t, fmt.Sprint(place), n, e, api.ErrMissing)
	}
	for _, place := range []int{999, 2000, 2399} {
		n, e := locate.ToothAt(open, place)
		refused(t, fmt.Sprint("open", place), n, e, api.ErrMissing)
	}
}

// P4.1
func TestPlacesOf(t *testing.T) {
	for tooth, want := range map[int]api.Range{
		0: {Lo: 1000, Hi: 1099}, 6: {Lo: 1600, Hi: 1699}, 7: {Lo: 1700, Hi: 1799}, 13: {Lo: 2300, Hi: 2399},
	} {
		if x, e := locate.PlacesOf(example(), tooth); x != want || e != api.OK {
			t.Error(tooth, x, e)
		}
	}
	for _, tooth := range outside(0, 13) {
		x, e := locate.PlacesOf(example(), tooth)
		refused(t, fmt.Sprint(tooth), x, e, api.ErrMissing)
	}
	open := changed(example(), func(t *api.LocateTrack) { t.Round = false })
	x, e := locate.PlacesOf(open, 10)
	refused(t, "open", x, e, api.ErrMissing)
	eachTime(func(r *rand.Rand) {
		x := someTrack(r, 12, 40)
		teeth, _ := locate.TeethOf(x)
		tooth := oneOf(r, 0, teeth-1)
		places, e := locate.PlacesOf(x, tooth)
		if places.Lo != x.First+tooth*x.Tooth || places.Hi-places.Lo != x.Tooth-1 || e != api.OK {
			t.Fatal(x, tooth, places, e)
		}
		for _, place := range []int{places.Lo, places.Hi} {
			if n, e := locate.ToothAt(x, place); n != tooth || e != api.OK {
				t.Fatal(x, tooth, place, n, e)
			}
		}
	})
}
