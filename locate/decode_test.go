package locate_test

import (
	"fmt"
	"math/rand"
	"slices"
	"testing"

	"guideway/api"
	"guideway/locate"
)

// P4.3
func TestNear(t *testing.T) {
	all := []int{0, 1, 2, 3, 4, 5, 6}
	open := changed(example(), func(t *api.LocateTrack) { t.Round = false })
	for _, c := range []struct {
		track  api.LocateTrack
		errors int
		seen   []int
		want   []int
		told   int
		err    api.Errno
	}{
		{example(), 0, []int{1, 1, 0}, []int{3}, 3, api.OK},
		{example(), 0, []int{0, 0, 1}, []int{0}, 0, api.OK},
		{example(), 0, []int{0, 2, 1}, []int{0, 1}, 0, api.ErrUnknown},
		{example(), 0, []int{2, 0, 0}, []int{6}, 6, api.OK},
		{example(), 0, []int{0, 0, 0}, nil, 0, api.ErrNone},
		{example(), 1, []int{0, 0, 0}, []int{0, 5, 6}, 0, api.ErrUnknown},
		{example(), 1, []int{1, 1, 0}, []int{2, 3, 5, 6}, 0, api.ErrUnknown},
		{example(), 1, []int{2, 0, 0}, []int{0, 3, 4, 5, 6}, 0, api.ErrUnknown},
		{example(), 0, []int{2, 2, 2}, all, 0, api.ErrUnknown},
		{example(), 3, []int{0, 0, 0}, all, 0, api.ErrUnknown},
		{example(), 2, []int{0, 0, 0}, []int{0, 1, 3, 4, 5, 6}, 0, api.ErrUnknown},
		{open, 0, []int{2, 2, 2}, []int{0, 1, 2, 3, 4}, 0, api.ErrUnknown},
		{open, 0, []int{0, 1, 0}, nil, 0, api.ErrNone},
		{open, 0, []int{1, 0, 2}, []int{4}, 4, api.OK},
	} {
		x, before := c.track, slices.Clone(c.seen)
		x.Errors = c.errors
		if l, e := locate.Near(x, c.seen); !slices.Equal(l, c.want) || e != api.OK {
			t.Error(c, l, e)
		}
		if n, e := locate.Told(x, c.seen); n != c.told || e != c.err {
			t.Error(c, n, e)
		}
		if !slices.Equal(before, c.seen) {
			t.Error("changed", c)
		}
	}
}

// P4.3
func TestSeenErrors(t *testing.T) {
	for _, w := range wrongSeens() {
		l, e := locate.Near(example(), w.seen)
		refused(t, fmt.Sprint(w), l, e, w.err)
		n, e := locate.Told(example(), w.seen)
		refused(t, fmt.Sprint(w), n, e, w.err)
		for _, count := range []int{0, -1} { // what is seen is asked for first
			reading := api.LocateReading{Seen: w.seen, Count: count}
			l, e := locate.Possible(example(), reading)
			refused(t, fmt.Sprint(reading), l, e, w.err)
			x, e := locate.PlaceOf(example(), reading)
			refused(t, fmt.Sprint(reading), x, e, w.err)
		}
	}
	for _, count := range outside(0, 4) {
		reading := api.LocateReading{Seen: []int{1, 1, 0}, Count: count}
		l, e := locate.Possible(example(), reading)
		refused(t, fmt.Sprint(reading), l, e, api.ErrRange)
		x, e := locate.PlaceOf(example(), reading)
		refused(t, fmt.Sprint(reading), x, e, api.ErrRange)
	}
}

// P4.3
func TestPossible(t *testing.T) {
	all := []int{2, 2, 2}
	for _, c := range []struct {
		modulus, slack int
		round          bool
		seen           []int
		count          int
		want           []api.Range
		err            api.Errno // of PlaceOf
	}{
		{5, 0, true, []int{0, 2, 1}, 1, []api.Range{{Lo: 1100, Hi: 1199}}, api.OK},
		{5, 1, true, []int{0, 2, 1}, 1, []api.Range{{Lo: 1000, Hi: 1299}}, api.OK},
		{5, 1, true, []int{0, 2, 1}, 0, []api.Range{{Lo: 1000, Hi: 1199}}, api.OK},
		{5, 1, true, []int{0, 2, 1}, 4, []api.Range{{Lo: 1000, Hi: 1099}, {Lo: 1300, Hi: 1399}}, api.ErrUnknown},
		{5, 0, true, []int{1, 1, 0}, 0, nil, api.ErrNone},
		{5, 0, true, []int{1, 1, 0}, 2, []api.Range{{Lo: 1700, Hi: 1799}}, api.OK},
		{5, 1, true, []int{1, 1, 0}, 0, []api.Range{{Lo: 1600, Hi: 1699}}, api.OK},
		{5, 2, true, []int{1, 1, 0}, 3, []api.Range{{Lo: 1600, Hi: 1799}}, api.OK},
		{5, 0, true, []int{0, 0, 0}, 0, nil, api.ErrNone},
		{5, 5, true, []int{0, 0, 0}, 0, nil, api.ErrNone},
		{5, 0, true, all, 3, []api.Range{{Lo: 1300, Hi: 1399}, {Lo: 1800, Hi: 1899}, {Lo: 2300, Hi: 2399}}, api.ErrUnknown},
		// with Slack at least half of Modulus each count fits
		{5, 3, true, all, 4, []api.Range{{Lo: 1000, Hi: 2399}}, api.OK},
		{5, 5, true, all, 0, []api.Range{{Lo: 1000, Hi: 2399}}, api.OK},
		{4, 2, true, all, 1, []api.Range{{Lo: 1000, Hi: 2399}}, api.OK},
		{1, 0, true, all, 0, []api.Range{{Lo: 1000, Hi: 2399}}, api.OK},
		{1, 0, false, all, 0, []api.Range{{Lo: 1000, Hi: 1999}}, api.OK},
		// 0 and 13 are no neighbours, though the track is round
		{14, 1, true, all, 0, []api.Range{{Lo: 1000, Hi: 1199}, {Lo: 2300, Hi: 2399}}, api.ErrUnknown},
		{5, 1, true, []int{2, 0, 1}, 0, []api.Range{{Lo: 1000, Hi: 1199}, {Lo: 1900, Hi: 1999}}, api.ErrUnknown},
		// a count beyond all teeth
		{1000, 0, true, all, 14, nil, api.ErrNone},
		{1000, 2, true, all, 999, []api.Range{{Lo: 1000, Hi: 1199}}, api.OK},
	} {
		x := example()
		x.Modulus, x.Slack, x.Round = c.modulus, c.slack, c.round
		reading := api.LocateReading{Seen: slices.Clone(c.seen), Count: c.count}
		if l, e := locate.Possible(x, reading); !slices.Equal(l, c.want) || e != api.OK {
			t.Error(c, l, e)
		}
		var only api.Range
		if c.err == api.OK {
			only = c.want[0]
		}
		if place, e := locate.PlaceOf(x, reading); place != only || e != c.err {
			t.Error(c, place, e)
		}
		if !slices.Equal(reading.Seen, c.seen) || !slices.Equal(x.Vanes, example().Vanes) {
			t.Error("changed", c)
		}
	}
}

// possibleTeeth are the teeth that are possible for a reading, by the definition.
func possibleTeeth(x api.LocateTrack, reading api.LocateReading) []int {
	var out []int
	for i, window := range windowsIn(x) {
		for k := range x.PerVane {
			tooth := i*x.PerVane + k
			isNear := false
			for off := -x.Slack; off <= x.Slack; off++ {
				isNear = isNear || (tooth+off-reading.Count)%x.Modulus == 0
			}
			if isNear && differences(window, reading.Seen) <= x.Errors {
				out = append(out, tooth)
			}
		}
	}
	return out
}

// runsOf are the places of the longest runs of neighbouring teeth.
func runsOf(x api.LocateTrack, teeth []int) []api.Range {
	var out []api.Range
	for i, tooth := range teeth {
		if i == 0 || teeth[i-1] != tooth-1 {
			out = append(out, api.Range{Lo: x.First + tooth*x.Tooth})
		}
		out[len(out)-1].Hi = x.First + (tooth+1)*x.Tooth - 1
	}
	return out
}

// someReading is a right reading: what is seen of a window, with some numbers changed, and a count.
func someReading(r *rand.Rand, x api.LocateTrack) api.LocateReading {
	windows := windowsIn(x)
	reading := api.LocateReading{Seen: slices.Clone(windows[r.Intn(len(windows))]), Count: oneOf(r, 0, x.Modulus-1)}
	for range r.Intn(4) {
		reading.Seen[r.Intn(x.Window)] = r.Intn(3)
	}
	return reading
}

// P4.3, by the definitions
func TestDecoding(t *testing.T) {
	eachTime(func(r *rand.Rand) {
		x := someTrack(r, 12, 40)
		reading := someReading(r, x)
		var near []int
		for i, window := range windowsIn(x) {
			if differences(window, reading.Seen) <= x.Errors {
				near = append(near, i)
			}
		}
		if l, e := locate.Near(x, reading.Seen); !slices.Equal(l, near) || e != api.OK {
			t.Fatal(x, reading, l, e)
		}
		n, e := locate.Told(x, reading.Seen)
		onlyOne(t, n, e, near)
		possible := runsOf(x, possibleTeeth(x, reading))
		if l, e := locate.Possible(x, reading); !slices.Equal(l, possible) || e != api.OK {
			t.Fatal(x, reading, l, e)
		}
		place, e := locate.PlaceOf(x, reading)
		onlyOne(t, place, e, possible)
	})
}

// onlyOne fails if a result is not the only one of a list.
func onlyOne[T comparable](t *testing.T, result T, e api.Errno, list []T) {
	t.Helper()
	switch {
	case len(list) == 0:
		refused(t, fmt.Sprint(list), result, e, api.ErrNone)
	case len(list) > 1:
		refused(t, fmt.Sprint(list), result, e, api.ErrUnknown)
	case result != list[0] || e != api.OK:
		t.Error(result, e, list)
	}
}

// P4.8
func TestNeverAWrongPlace(t *testing.T) {
	told, placed := 0, 0
	eachTime(func(r *rand.Rand) {
		x := someTrack(r, 12, 40)
		windows := windowsIn(x)
		tooth := r.Intn(len(windows) * x.PerVane)
		reading := api.LocateReading{Seen: slices.Clone(windows[tooth/x.PerVane])}
		for i, position := range r.Perm(x.Window) {
			if i < x.Errors {
				reading.Seen[position] ^= r.Intn(2)
			} else if r.Intn(4) == 0 {
				reading.Seen[position] = 2
			}
		}
		off := oneOf(r, -x.Slack, x.Slack)
		reading.Count = ((tooth+off)%x.Modulus + x.Modulus) % x.Modulus
		places, _ := locate.PlacesOf(x, tooth)
		switch place, e := locate.PlaceOf(x, reading); {
		case e == api.OK && (place.Lo > places.Lo || place.Hi < places.Hi):
			t.Fatal(x, tooth, reading, place)
		case e == api.OK:
			placed++
		case e != api.ErrUnknown:
			t.Fatal(x, tooth, reading, e)
		}
		switch window, e := locate.Told(x, reading.Seen); {
		case e == api.OK && window != tooth/x.PerVane:
			t.Fatal(x, tooth, reading, window)
		case e == api.OK:
			told++
		case e != api.ErrUnknown:
			t.Fatal(x, tooth, reading, e)
		}
	})
	if told < 50 || placed < 50 {
		t.Error(told, placed)
	}
}

// P4.10
func TestMoreErrorsMoreWindows(t *testing.T) {
	eachTime(func(r *rand.Rand) {
		x := someTrack(r, 12, 40)
		reading := someReading(r, x)
		more, blind := x, slices.Clone(reading.Seen)
		more.Errors = between(r, x.Errors, x.Window)
		blind[r.Intn(x.Window)] = 2
		near, _ := locate.Near(x, reading.Seen)
		others, e := locate.Near(more, reading.Seen)
		hasAll(t, near, others, e)
		others, e = locate.Near(x, blind)
		hasAll(t, near, others, e)
		more = x
		more.Slack = between(r, x.Slack, x.Modulus)
		possible, _ := locate.Possible(x, reading)
		wider, e := locate.Possible(more, reading)
		for _, places := range possible {
			isIn := func(x api.Range) bool { return x.Lo <= places.Lo && x.Hi >= places.Hi }
			if !slices.ContainsFunc(wider, isIn) || e != api.OK {
				t.Fatal(x, more.Slack, reading, possible, wider, e)
			}
		}
	})
}

// hasAll fails if not all numbers of a list are in another one.
func hasAll(t *testing.T, list, others []int, e api.Errno) {
	t.Helper()
	for _, number := range list {
		if !slices.Contains(others, number) || e != api.OK {
			t.Fatal(list, others, e)
		}
	}
}
