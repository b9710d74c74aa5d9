package locate_test

import (
	"fmt"
	"math/rand"
	"slices"
	"testing"

	"guideway/api"
	"guideway/locate"
)

// P4.2
func TestDiffer(t *testing.T) {
	for _, c := range []struct {
		a, b []int
		want int
	}{
		{nil, nil, 0},
		{nil, []int{}, 0},
		{[]int{0, 1, 2, 1}, []int{1, 1, 0, 0}, 2},
		{[]int{0}, []int{1}, 1},
		{[]int{1}, []int{0}, 1},
		{[]int{2, 2, 0, 1, 2}, []int{0, 1, 2, 2, 2}, 0},
		{[]int{0, 1, 0, 1}, []int{1, 0, 1, 0}, 4},
		{slices.Repeat([]int{0, 1}, 20), slices.Repeat([]int{1}, 40), 20},
		{slices.Repeat([]int{0}, 40), slices.Repeat([]int{1}, 40), 40},
	} {
		a, b := slices.Clone(c.a), slices.Clone(c.b)
		if n, e := locate.Differ(c.a, c.b); n != c.want || e != api.OK {
			t.Error(c, n, e)
		}
		if !slices.Equal(a, c.a) || !slices.Equal(b, c.b) {
			t.Error("changed", c)
		}
	}
	eachTime(func(r *rand.Rand) {
		many := oneOf(r, 0, 40)
		a, b := someNumbers(r, many, 2), someNumbers(r, many, 2)
		if n, e := locate.Differ(a, b); n != differences(a, b) || e != api.OK {
			t.Fatal(a, b, n, e)
		}
	})
}

// P4.2
func TestDifferErrors(t *testing.T) {
	for _, c := range []struct {
		name string
		a, b []int
		want api.Errno
	}{
		{"41", make([]int, 41), make([]int, 41), api.ErrLarge},
		{"41, none", make([]int, 41), nil, api.ErrLarge},
		{"41, kind", slices.Repeat([]int{3}, 41), nil, api.ErrLarge},
		{"40, 41", make([]int, 40), make([]int, 41), api.ErrShape},
		{"40, 39", make([]int, 40), make([]int, 39), api.ErrShape},
		{"one, none", []int{0}, nil, api.ErrShape},
		{"none, one", nil, []int{0}, api.ErrShape},
		{"one, two, kind", []int{3}, []int{3, 3}, api.ErrShape},
	} {
		n, e := locate.Differ(c.a, c.b)
		refused(t, c.name, n, e, c.want)
	}
	for _, number := range outside(0, 2) {
		for i := range 3 {
			wrong := []int{0, 1, 2}
			wrong[i] = number
			n, e := locate.Differ(wrong, []int{1, 1, 1})
			refused(t, fmt.Sprint(wrong), n, e, api.ErrKind)
			n, e = locate.Differ([]int{2, 2, 2}, wrong)
			refused(t, fmt.Sprint(wrong, "second"), n, e, api.ErrKind)
		}
	}
}

func withVanes(window int, round bool, vanes ...int) api.LocateTrack {
	return changed(example(), func(t *api.LocateTrack) { t.Vanes, t.Window, t.Round = vanes, window, round })
}

// P4.2
func TestDistanceOf(t *testing.T) {
	for _, c := range []struct {
		track api.LocateTrack
		want  int
		pair  [2]int
	}{
		{example(), 1, [2]int{0, 1}},
		{withVanes(1, false, 0, 1, 1, 0), 0, [2]int{0, 3}},
		{withVanes(1, false, 1, 0, 0, 0), 0, [2]int{1, 2}},
		{withVanes(2, false, 0, 0, 1, 1), 1, [2]int{0, 1}},
		{withVanes(2, true, 0, 1), 2, [2]int{0, 1}},
		{withVanes(2, true, 1, 1), 0, [2]int{0, 1}},
		{withVanes(3, false, 0, 0, 1, 0, 0), 2, [2]int{0, 1}},
		{withVanes(3, true, 0, 0, 1, 0, 0), 0, [2]int{3, 4}},
		{withVanes(3, false, 0, 1, 0, 0, 1), 2, [2]int{0, 1}},
		{withVanes(3, false, 0, 0, 1, 1, 0), 1, [2]int{0, 1}},
		{withVanes(2, false, 0, 1, 0, 0), 1, [2]int{0, 2}}, // 01, 10, 00
		{withVanes(12, false, 0, 0, 0, 0, 0, 0, 0, 0, 0, 0, 0, 0, 1), 1, [2]int{0, 1}},
		{withVanes(12, false, slices.Repeat([]int{0, 1}, 7)...), 0, [2]int{0, 2}},
		{withVanes(12, false, slices.Repeat([]int{0, 1}, 7)[:13]...), 12, [2]int{0, 1}},
	} {
		if n, pair, e := locate.DistanceOf(c.track); n != c.want || pair != c.pair || e != api.OK {
			t.Error(c, n, pair, e)
		}
	}
	for _, x := range []api.LocateTrack{withVanes(1, true, 0), withVanes(1, false, 1), withVanes(4, false, 0, 1, 1, 0)} {
		n, pair, e := locate.DistanceOf(x)
		if n != 0 || pair != [2]int{} || e != api.ErrNone {
			t.Error(x, n, pair, e)
		}
	}
}

// closestOf is the distance of a track with some windows, and the first pair that has it, by the definition.
func closestOf(x api.LocateTrack) (int, [2]int) {
	windows := windowsIn(x)
	for distance := range x.Window + 1 {
		for i := range windows {
			for k := i + 1; k < len(windows); k++ {
				if differences(windows[i], windows[k]) == distance {
					return distance, [2]int{i, k}
				}
			}
		}
	}
	return -1, [2]int{}
}

// P4.2
func TestDistances(t *testing.T) {
	eachTime(func(r *rand.Rand) {
		x := someTrack(r, 12, 40)
		n, pair, e := locate.DistanceOf(x)
		if len(windowsIn(x)) == 1 {
			refused(t, fmt.Sprint(x), n, e, api.ErrNone)
			return
		}
		if want, first := closestOf(x); n != want || pair != first || e != api.OK {
			t.Fatal(x, n, pair, e)
		}
	})
}

// lists yields all lists of so many numbers from 0 to most.
func lists(many, most int, yield func([]int)) {
	if many == 0 {
		yield(nil)
		return
	}
	lists(many-1, most, func(l []int) {
		for number := range most + 1 {
			yield(append(slices.Clone(l), number))
		}
	})
}

// isTold tells, by the definition, whether each list that differs from a window in at most Errors positions, and has up
// to so many unread ones, is near this window alone.
func isTold(x api.LocateTrack, unread int) bool {
	told := true
	windows := windowsIn(x)
	lists(x.Window, 2, func(l []int) {
		missing, near := 0, 0
		for _, number := range l {
			if number == 2 {
				missing++
			}
		}
		for _, window := range windows {
			if differences(l, window) <= x.Errors {
				near++
			}
		}
		if missing <= unread && near > 1 {
			told = false
		}
	})
	return told
}

// P4.2
func TestAlways(t *testing.T) {
	far := withVanes(3, false, 0, 0, 1, 0, 0)
	one := withVanes(4, false, 0, 1, 1, 0)
	for _, c := range []struct {
		track  api.LocateTrack
		errors int
		want   bool
		unread int
	}{
		{example(), 0, true, 0},
		{example(), 1, false, 0},
		{example(), 3, false, 0},
		{far, 0, true, 1},
		{far, 1, false, 0},
		{withVanes(3, false, 0, 1, 0, 1), 0, true, 2},
		{withVanes(3, false, 0, 1, 0, 1), 1, true, 0},
		{withVanes(3, false, 0, 1, 0, 1), 2, false, 0},
		{withVanes(1, true, 1, 1), 0, false, 0},
		{one, 0, true, 4},
		{one, 4, true, 4},
		{withVanes(1, true, 0), 1, true, 1},
		{withVanes(12, false, slices.Repeat([]int{0, 1}, 7)[:13]...), 0, true, 11},
		{withVanes(12, false, slices.Repeat([]int{0, 1}, 7)[:13]...), 5, true, 1},
		{withVanes(12, false, slices.Repeat([]int{0, 1}, 7)[:13]...), 6, false, 0},
	} {
		x := c.track
		x.Errors = c.errors
		if is, e := locate.Always(x); is != c.want || e != api.OK {
			t.Error(c, is, e)
		}
		n, e := locate.MostUnread(x)
		if !c.want {
			refused(t, fmt.Sprint(c), n, e, api.ErrNone)
		} else if n != c.unread || e != api.OK {
			t.Error(c, n, e)
		}
	}
}

// P4.2, by the definitions; P4.9
func TestJustIf(t *testing.T) {
	r := rand.New(rand.NewSource(1))
	for range 600 {
		x := someTrack(r, 5, 9)
		always, e := locate.Always(x)
		if always != isTold(x, 0) || e != api.OK {
			t.Fatal(x, always, e)
		}
		most, e := locate.MostUnread(x)
		if !always {
			refused(t, fmt.Sprint(x), most, e, api.ErrNone)
		} else if !isTold(x, most) || most < x.Window && isTold(x, most+1) || most > x.Window || e != api.OK {
			t.Fatal(x, most, e)
		}
		distance, _, none := locate.DistanceOf(x)
		if none == api.ErrNone {
			if !always || most != x.Window {
				t.Fatal(x, always, most)
			}
			continue
		}
		if always != (distance > 2*x.Errors) || always && most != distance-2*x.Errors-1 {
			t.Fatal(x, distance, always, most)
		}
	}
}
