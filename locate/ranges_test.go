package locate_test

import (
	"fmt"
	"math/rand"
	"slices"
	"testing"

	"guideway/api"
	"guideway/locate"
)

// P4.6
func TestFused(t *testing.T) {
	three := []api.Range{{Lo: 0, Hi: 10}, {Lo: 5, Hi: 20}, {Lo: 30, Hi: 40}}
	most := api.MaxPlace
	for _, c := range []struct {
		l     []api.Range
		wrong int
		want  []api.Range
	}{
		{three, 0, nil},
		{three, 1, []api.Range{{Lo: 5, Hi: 10}}},
		{three, 2, []api.Range{{Lo: 0, Hi: 20}, {Lo: 30, Hi: 40}}},
		{three[:1], 0, []api.Range{{Lo: 0, Hi: 10}}},
		{[]api.Range{{Lo: 0, Hi: most}}, 0, []api.Range{{Lo: 0, Hi: most}}},
		{[]api.Range{{Lo: 7, Hi: 7}, {Lo: 7, Hi: 7}}, 0, []api.Range{{Lo: 7, Hi: 7}}},
		{[]api.Range{{Lo: 7, Hi: 7}, {Lo: 8, Hi: 8}}, 0, nil},
		{[]api.Range{{Lo: 7, Hi: 8}, {Lo: 8, Hi: 9}}, 0, []api.Range{{Lo: 8, Hi: 8}}},
		// neighbouring places are one run, though they are in different ranges
		{[]api.Range{{Lo: 0, Hi: 5}, {Lo: 6, Hi: 9}}, 1, []api.Range{{Lo: 0, Hi: 9}}},
		{[]api.Range{{Lo: 6, Hi: 9}, {Lo: 0, Hi: 5}}, 1, []api.Range{{Lo: 0, Hi: 9}}},
		{[]api.Range{{Lo: 0, Hi: 4}, {Lo: 6, Hi: 9}}, 1, []api.Range{{Lo: 0, Hi: 4}, {Lo: 6, Hi: 9}}},
		{[]api.Range{{Lo: 0, Hi: 5}, {Lo: 6, Hi: 9}, {Lo: 2, Hi: 8}}, 1, []api.Range{{Lo: 2, Hi: 8}}},
		{[]api.Range{{Lo: 0, Hi: 9}, {Lo: 2, Hi: 3}, {Lo: 5, Hi: 6}}, 1, []api.Range{{Lo: 2, Hi: 3}, {Lo: 5, Hi: 6}}},
		{[]api.Range{{Lo: 0, Hi: 9}, {Lo: 2, Hi: 3}, {Lo: 5, Hi: 6}}, 2, []api.Range{{Lo: 0, Hi: 9}}},
		{slices.Repeat([]api.Range{{Lo: 3, Hi: most}}, 12), 11, []api.Range{{Lo: 3, Hi: most}}},
		{slices.Repeat([]api.Range{{Lo: 3, Hi: most}}, 12), 0, []api.Range{{Lo: 3, Hi: most}}},
	} {
		before := slices.Clone(c.l)
		if l, e := locate.Fused(c.l, c.wrong); !slices.Equal(l, c.want) || e != api.OK {
			t.Error(c, l, e)
		}
		if !slices.Equal(before, c.l) {
			t.Error("changed", c)
		}
	}
}

// P4.6
func TestFusedErrors(t *testing.T) {
	right := api.Range{Lo: 1, Hi: 2}
	for _, c := range []struct {
		name  string
		l     []api.Range
		wrong int
		want  api.Errno
	}{
		{"none", nil, 0, api.ErrShape},
		{"empty, wrong", []api.Range{}, -1, api.ErrShape},
		{"13", slices.Repeat([]api.Range{right}, 13), 0, api.ErrLarge},
		{"13, wrong", slices.Repeat([]api.Range{{Lo: -1}}, 13), -1, api.ErrLarge},
		{"order, range", []api.Range{right, {Lo: 2, Hi: 1}, {Lo: -1, Hi: 1}}, 0, api.ErrOrder},
		{"range, order", []api.Range{right, {Lo: -1, Hi: 1}, {Lo: 2, Hi: 1}}, 0, api.ErrRange},
		{"order, wrong", []api.Range{{Lo: 2, Hi: 1}}, 1, api.ErrOrder},
	} {
		l, e := locate.Fused(c.l, c.wrong)
		refused(t, c.name, l, e, c.want)
	}
	for _, w := range wrongPlaces() {
		l, e := locate.Fused([]api.Range{w.x}, 0)
		refused(t, fmt.Sprint(w), l, e, w.err)
		l, e = locate.Fused([]api.Range{right, w.x, right}, 3)
		refused(t, fmt.Sprint(w), l, e, w.err)
	}
	for many := 1; many <= 12; many++ {
		for _, wrong := range outside(0, many-1) {
			l, e := locate.Fused(slices.Repeat([]api.Range{right}, many), wrong)
			refused(t, fmt.Sprint(many, wrong), l, e, api.ErrRange)
		}
	}
}

// P4.6, by the definition; P4.12
func TestFusedPlaces(t *testing.T) {
	eachTime(func(r *rand.Rand) {
		var l []api.Range
		for range between(r, 1, 12) {
			l = append(l, someRange(r, 0, []int{6, 30}[r.Intn(2)]))
		}
		wrong := r.Intn(len(l))
		var want []api.Range
		for place := range 32 {
			bad := 0
			for _, x := range l {
				if place < x.Lo || place > x.Hi {
					bad++
				}
			}
			if bad > wrong {
				continue
			}
			if len(want) == 0 || want[len(want)-1].Hi != place-1 {
				want = append(want, api.Range{Lo: place})
			}
			want[len(want)-1].Hi = place
		}
		if got, e := locate.Fused(l, wrong); !slices.Equal(got, want) || e != api.OK {
			t.Fatal(l, wrong, got, e)
		}
	})
}

func isIn(list []api.Range, place int) bool {
	return slices.ContainsFunc(list, func(x api.Range) bool { return x.Lo <= place && place <= x.Hi })
}

// P4.12
func TestTruePlaceIsFused(t *testing.T) {
	eachTime(func(r *rand.Rand) {
		place := between(r, 0, api.MaxPlace)
		var l []api.Range
		for range between(r, 1, 12) {
			l = append(l, api.Range{Lo: oneOf(r, 0, place), Hi: oneOf(r, place, api.MaxPlace)})
		}
		wrong := r.Intn(len(l))
		for _, i := range r.Perm(len(l))[:wrong] {
			l[i] = someRange(r, 0, api.MaxPlace)
		}
		got, e := locate.Fused(l, wrong)
		if !isIn(got, place) || e != api.OK {
			t.Fatal(place, l, wrong, got, e)
		}
		more, e := locate.Fused(l, between(r, wrong, len(l)-1))
		for _, x := range got {
			wider := func(other api.Range) bool { return other.Lo <= x.Lo && other.Hi >= x.Hi }
			if !slices.ContainsFunc(more, wider) || e != api.OK {
				t.Fatal(l, wrong, got, more, e)
			}
		}
	})
}

// P4.6
func TestMoved(t *testing.T) {
	for _, c := range []struct {
		x, speed api.Range
		time     int
		want     api.Range
	}{
		{api.Range{Lo: 100, Hi: 200}, api.Range{Lo: 3, Hi: 5}, 1500, api.Range{Lo: 104, Hi: 208}},
		{api.Range{Lo: 0, Hi: 1}, api.Range{Lo: -3, Hi: -1}, 1500, api.Range{Lo: -5, Hi: 0}},
		{api.Range{Lo: 100, Hi: 200}, api.Range{Lo: -3, Hi: 5}, 0, api.Range{Lo: 100, Hi: 200}},
		{api.Range{Lo: 100, Hi: 200}, api.Range{}, 10000000, api.Range{Lo: 100, Hi: 200}},
		{api.Range{Lo: 5, Hi: 5}, api.Range{Lo: 1, Hi: 1}, 1, api.Range{Lo: 5, Hi: 6}},
		{api.Range{Lo: 5, Hi: 5}, api.Range{Lo: -1, Hi: -1}, 1, api.Range{Lo: 4, Hi: 5}},
		{api.Range{Lo: 5, Hi: 5}, api.Range{Lo: 1, Hi: 1}, 999, api.Range{Lo: 5, Hi: 6}},
		{api.Range{Lo: 5, Hi: 5}, api.Range{Lo: 1, Hi: 1}, 1000, api.Range{Lo: 6, Hi: 6}},
		{api.Range{Lo: 5, Hi: 5}, api.Range{Lo: -2, Hi: -2}, 500, api.Range{Lo: 4, Hi: 4}},
		{api.Range{Lo: 0, Hi: api.MaxPlace}, api.Range{Lo: -140000, Hi: 140000}, 10000000, api.Range{Lo: -1400000000, Hi: 2400000000}},
		{api.Range{Lo: api.MaxPlace, Hi: api.MaxPlace}, api.Range{Lo: 140000, Hi: 140000}, 10000000, api.Range{Lo: 2400000000, Hi: 2400000000}},
	} {
		if x, e := locate.Moved(c.x, c.speed, c.time); x != c.want || e != api.OK {
			t.Error(c, x, e)
		}
	}
	eachTime(func(r *rand.Rand) {
		x, speed := someRange(r, 0, 1000), someRange(r, -2000, 2000)
		time := oneOf(r, 0, 5000)
		got, e := locate.Moved(x, speed, time)
		isDown := got.Lo*1000 <= x.Lo*1000+speed.Lo*time && (got.Lo+1)*1000 > x.Lo*1000+speed.Lo*time
		isUp := got.Hi*1000 >= x.Hi*1000+speed.Hi*time && (got.Hi-1)*1000 < x.Hi*1000+speed.Hi*time
		if !isDown || !isUp || e != api.OK {
			t.Fatal(x, speed, time, got, e)
		}
	})
}

// P4.6
func TestMovedErrors(t *testing.T) {
	places, speed := api.Range{Lo: 1, Hi: 2}, api.Range{Lo: -1, Hi: 1}
	for _, w := range wrongPlaces() {
		x, e := locate.Moved(w.x, speed, 1)
		refused(t, fmt.Sprint(w), x, e, w.err)
		x, e = locate.Moved(w.x, api.Range{Lo: 140001, Hi: 0}, -1)
		refused(t, fmt.Sprint(w, "all"), x, e, w.err)
		x, e = locate.Moved(w.x, api.Range{Lo: 1, Hi: 0}, -1)
		refused(t, fmt.Sprint(w, "order"), x, e, w.err)
	}
	for _, w := range wrongSpeeds() {
		x, e := locate.Moved(places, w.x, 1)
		refused(t, fmt.Sprint(w), x, e, w.err)
		x, e = locate.Moved(places, w.x, -1)
		refused(t, fmt.Sprint(w, "time"), x, e, w.err)
	}
	for _, time := range wrongTimes() {
		x, e := locate.Moved(places, speed, time)
		refused(t, fmt.Sprint(time), x, e, api.ErrRange)
	}
}

// P4.6
func TestFollow(t *testing.T) {
	fix := func(at, lo, hi int) api.LocateFix { return api.LocateFix{At: at, Place: api.Range{Lo: lo, Hi: hi}} }
	speed := api.Range{Lo: 0, Hi: 10}
	for _, c := range []struct {
		speed  api.Range
		l      []api.LocateFix
		want   api.Range
		number int
		err    api.Errno
	}{
		{speed, []api.LocateFix{fix(0, 100, 120), fix(1000, 110, 200), fix(2000, 0, 125)}, api.Range{Lo: 110, Hi: 125}, 0, api.OK},
		{speed, []api.LocateFix{fix(777, 100, 120)}, api.Range{Lo: 100, Hi: 120}, 0, api.OK},
		{speed, []api.LocateFix{fix(0, 100, 120), fix(1000, 131, 200)}, api.Range{}, 1, api.ErrClash},
		{speed, []api.LocateFix{fix(0, 100, 120), fix(1000, 130, 200)}, api.Range{Lo: 130, Hi: 130}, 0, api.OK},
		{speed, []api.LocateFix{fix(0, 100, 120), fix(1000, 0, 99)}, api.Range{}, 1, api.ErrClash},
		{speed, []api.LocateFix{fix(0, 100, 120), fix(1000, 0, 100)}, api.Range{Lo: 100, Hi: 100}, 0, api.OK},
		// the time is that from the one before, not from the first one
		{speed, []api.LocateFix{fix(5000, 100, 120), fix(6000, 0, 999), fix(6500, 0, 999)}, api.Range{Lo: 100, Hi: 135}, 0, api.OK},
		// at the same time nothing is moved
		{api.Range{Lo: 7, Hi: 10}, []api.LocateFix{fix(9, 100, 120), fix(9, 110, 200)}, api.Range{Lo: 110, Hi: 120}, 0, api.OK},
		{speed, []api.LocateFix{fix(9, 100, 120), fix(9, 121, 200)}, api.Range{}, 1, api.ErrClash},
		// the first one that contradicts those ahead
		{speed, []api.LocateFix{fix(0, 100, 120), fix(0, 110, 130), fix(0, 121, 130), fix(0, 500, 600)}, api.Range{}, 2, api.ErrClash},
		{api.Range{Lo: -140000, Hi: 140000}, []api.LocateFix{fix(0, 5, 5), fix(10000000, 0, api.MaxPlace)}, api.Range{Hi: api.MaxPlace}, 0, api.OK},
		{api.Range{Lo: -1, Hi: -1}, []api.LocateFix{fix(0, 5, 5), fix(1, 0, 9)}, api.Range{Lo: 4, Hi: 5}, 0, api.OK},
		{api.Range{Lo: -1, Hi: -1}, []api.LocateFix{fix(0, 0, 0), fix(1000, 0, 9)}, api.Range{}, 1, api.ErrClash},
		{speed, slices.Repeat([]api.LocateFix{fix(3, 4, 5)}, 40), api.Range{Lo: 4, Hi: 5}, 0, api.OK},
	} {
		before := slices.Clone(c.l)
		if x, n, e := locate.Follow(c.speed, c.l); x != c.want || n != c.number || e != c.err {
			t.Error(c, x, n, e)
		}
		if !slices.Equal(before, c.l) {
			t.Error("changed", c)
		}
	}
}

// P4.6
func TestFollowErrors(t *testing.T) {
	speed, place := api.Range{Lo: -1, Hi: 1}, api.Range{Lo: 1, Hi: 2}
	right, far := api.LocateFix{At: 5, Place: place}, api.LocateFix{At: 5, Place: api.Range{Lo: 900, Hi: 901}}
	follow := func(name string, speed api.Range, want api.Errno, l ...api.LocateFix) {
		t.Helper()
		x, n, e := locate.Follow(speed, l)
		refused(t, name, x, e, want)
		refused(t, name, n, e, want)
	}
	follow("none", speed, api.ErrShape)
	follow("41", speed, api.ErrLarge, slices.Repeat([]api.LocateFix{right}, 41)...)
	follow("41, wrong", speed, api.ErrLarge, slices.Repeat([]api.LocateFix{{At: -1}}, 41)...)
	for _, w := range wrongSpeeds() {
		follow(fmt.Sprint(w), w.x, w.err, right)
		follow(fmt.Sprint(w, "none"), w.x, w.err)
		follow(fmt.Sprint(w, "wrong"), w.x, w.err, api.LocateFix{At: -1})
	}
	for _, time := range wrongTimes() {
		wrong := api.LocateFix{At: time, Place: place}
		follow(fmt.Sprint(time), speed, api.ErrRange, wrong)
		follow(fmt.Sprint(time, "second"), speed, api.ErrRange, right, wrong)
		wrong.Place = api.Range{Lo: 2, Hi: 1}
		follow(fmt.Sprint(time, "ahead of its place"), speed, api.ErrRange, right, wrong)
	}
	for _, w := range wrongPlaces() {
		wrong := api.LocateFix{At: 4, Place: w.x} // too early, too, as the second one
		follow(fmt.Sprint(w), speed, w.err, wrong)
		follow(fmt.Sprint(w, "second"), speed, w.err, right, wrong)
	}
	early := api.LocateFix{At: 4, Place: place}
	follow("early", speed, api.ErrOrder, right, early)
	follow("early, third", speed, api.ErrOrder, early, right, early)
	follow("early, range", speed, api.ErrOrder, right, early, api.LocateFix{At: -1})
	follow("range, early", speed, api.ErrRange, api.LocateFix{At: -1}, right, early)
	// all fixes are looked at ahead of what they have in common
	follow("far, early", speed, api.ErrOrder, right, far, early)
	follow("far, range", speed, api.ErrRange, right, far, api.LocateFix{At: 10000001})
}

// P4.12
func TestTrainIsFollowed(t *testing.T) {
	eachTime(func(r *rand.Rand) {
		speed := someRange(r, -3000, 3000)
		micro, at := 500000000000, oneOf(r, 0, 1000) // where the train is, in thousandths of a millimetre
		var l []api.LocateFix
		for range oneOf(r, 1, 40) {
			time := oneOf(r, 0, 3000)
			at += time
			micro += oneOf(r, speed.Lo, speed.Hi) * time
			place := api.Range{Lo: micro/1000 - oneOf(r, 0, 200), Hi: (micro+999)/1000 + oneOf(r, 0, 200)}
			l = append(l, api.LocateFix{At: at, Place: place})
		}
		x, n, e := locate.Follow(speed, l)
		if x.Lo*1000 > micro || x.Hi*1000 < micro || n != 0 || e != api.OK {
			t.Fatal(speed, l, x, n, e, micro)
		}
	})
}

// P4.6, by the definition
func TestFollowing(t *testing.T) {
	clashes := 0
	eachTime(func(r *rand.Rand) {
		speed, at := someRange(r, -100, 100), 0
		var l []api.LocateFix
		for range oneOf(r, 1, 8) {
			at += oneOf(r, 0, 300)
			l = append(l, api.LocateFix{At: at, Place: someRange(r, 0, 60)})
		}
		want := l[0].Place
		number, err := 0, api.OK
		for i := 1; i < len(l) && err == api.OK; i++ {
			moved := api.Range{Lo: want.Lo - 100, Hi: want.Hi + 100}
			for moved.Lo*1000+999 < want.Lo*1000+speed.Lo*(l[i].At-l[i-1].At) {
				moved.Lo++
			}
			for moved.Hi*1000-999 > want.Hi*1000+speed.Hi*(l[i].At-l[i-1].At) {
				moved.Hi--
			}
			want = api.Range{Lo: max(moved.Lo, l[i].Place.Lo), Hi: min(moved.Hi, l[i].Place.Hi)}
			if want.Lo > want.Hi {
				want, number, err = api.Range{}, i, api.ErrClash
				clashes++
			}
		}
		if x, n, e := locate.Follow(speed, l); x != want || n != number || e != err {
			t.Fatal(speed, l, x, n, e, want, number, err)
		}
	})
	if clashes < 100 || clashes > 900 {
		t.Error(clashes)
	}
}
