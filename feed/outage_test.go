package feed_test

import (
	"math/rand"
	"reflect"
	"slices"
	"testing"

	"guideway/api"
	"guideway/feed"
)

// P7.5: the chapter's example 5.
func TestOutagesOfTheExample(t *testing.T) {
	x, e := feed.Without(example(3000), []int{1})
	refused(t, "without b", x, e, api.ErrOpen)
	want := example(3000)
	want.Sections[0] = api.FeedSection{Left: -1, Right: 1, Loss: 100}
	if x, e := feed.Without(example(3000), []int{0}); e != api.OK || !reflect.DeepEqual(x, want) {
		t.Error(x, e)
	}
	n := example(3000)
	i, e := feed.FirstWeak(n, at(n, 0))
	is(t, i, e, 0)
	n.Stations[1].Limit = 2200
	i, e = feed.FirstWeak(n, at(n, 0))
	is(t, i, e, 1)
}

// ring is a net in which each section is fed by two substations, c being without one.
func ring(a, b, d int) api.FeedNet {
	n := single(a, train("x", 0, 0, 10))
	n.Stations = append(n.Stations, api.FeedStation{Name: "b", Limit: b}, api.FeedStation{Name: "c"}, api.FeedStation{Name: "d", Limit: d})
	n.Sections = []api.FeedSection{{Left: 0, Right: 1, Share: 100}, {Left: 1, Right: 3, Share: 200, Loss: 10}, {Left: 3, Right: 0, Share: 300}}
	n.Trains[0].Steps = append(n.Trains[0].Steps, api.FeedStep{Section: 1, Power: 20}, api.FeedStep{Section: 2, Power: 30})
	return n
}

// P7.5: one that feeds nothing takes nothing from others; the ends that are left feed all.
func TestWithout(t *testing.T) {
	for _, c := range []struct {
		out  []int
		want []api.FeedSection
	}{
		{nil, []api.FeedSection{{Left: 0, Right: 1, Share: 100}, {Left: 1, Right: 3, Share: 200, Loss: 10}, {Left: 3, Right: 0, Share: 300}}},
		{[]int{0}, []api.FeedSection{{Left: -1, Right: 1}, {Left: 1, Right: 3, Share: 200, Loss: 10}, {Left: 3, Right: -1, Share: 1000}}},
		{[]int{1}, []api.FeedSection{{Left: 0, Right: -1, Share: 1000}, {Left: -1, Right: 3, Loss: 10}, {Left: 3, Right: 0, Share: 300}}},
		{[]int{2}, []api.FeedSection{{Left: 0, Right: 1, Share: 100}, {Left: 1, Right: 3, Share: 200, Loss: 10}, {Left: 3, Right: 0, Share: 300}}},
		{[]int{2, 3}, []api.FeedSection{{Left: 0, Right: 1, Share: 100}, {Left: 1, Right: -1, Share: 1000, Loss: 10}, {Left: -1, Right: 0}}},
		{[]int{0, 1}, nil}, {[]int{0, 3}, nil}, {[]int{1, 3}, nil}, {[]int{0, 1, 2, 3}, nil},
	} {
		x, e := feed.Without(ring(1, 2, 3), c.out)
		if c.want == nil {
			refused(t, "open", x, e, api.ErrOpen)
			continue
		}
		want := ring(1, 2, 3)
		want.Sections = c.want
		if e != api.OK || !reflect.DeepEqual(x, want) {
			t.Error(c.out, x, e)
		}
	}
}

// P7.5: by the definition; what is left is a net that is right, and what is drawn is as before.
func TestWithoutAny(t *testing.T) {
	eachNet(func(r *rand.Rand, n api.FeedNet, l []api.FeedDeparture) {
		for _, out := range subsets(len(n.Stations)) {
			want, isOpen := without(n, out)
			x, e := feed.Without(n, out)
			if isOpen {
				refused(t, "Without", x, e, api.ErrOpen)
				continue
			}
			if m, err := feed.CheckNet(x); e != api.OK || err != api.OK || !slices.Equal(x.Sections, want.Sections) || !slices.Equal(x.Stations, n.Stations) || !reflect.DeepEqual(x.Trains, n.Trains) {
				t.Error(n, out, x, e, m, err)
			}
			for tick := range ticks(n, l) {
				loads, _ := feed.LoadsAt(x, l, tick)
				before, _ := feed.LoadsAt(n, l, tick)
				if sum(loads) != sum(before) || slices.ContainsFunc(out, func(i int) bool { return loads[i] != 0 }) {
					t.Error(n, l, tick, out, loads, before)
				}
			}
		}
	})
}

func sum(list []int) int {
	sum := 0
	for _, x := range list {
		sum += x
	}
	return sum
}

// without is the net in which some substations feed nothing, and whether a section has none then.
func without(n api.FeedNet, out []int) (api.FeedNet, bool) {
	n = copied(n)
	isOpen := false
	for i, s := range n.Sections {
		hasLeft := s.Left >= 0 && !slices.Contains(out, s.Left)
		hasRight := s.Right >= 0 && !slices.Contains(out, s.Right)
		switch {
		case hasLeft && hasRight:
		case hasLeft:
			n.Sections[i] = api.FeedSection{Left: s.Left, Right: -1, Share: 1000, Loss: s.Loss}
		case hasRight:
			n.Sections[i] = api.FeedSection{Left: -1, Right: s.Right, Share: 0, Loss: s.Loss}
		default:
			isOpen = true
		}
	}
	return n, isOpen
}

// P7.5: the first substation that is weak.
func TestFirstWeak(t *testing.T) {
	for _, c := range []struct{ a, b, d, want int }{
		{30, 30, 29, 0}, // d feeds section 2 alone
		{30, 9, 30, 0},
		{9, 9, 9, 0},
		{20, 30, 30, 1},
		{9, 30, 30, 1}, // the limit of a is exceeded anyway, but without a
		{29, 30, 30, 3},
		{30, 20, 30, 3},
	} {
		n := ring(c.a, c.b, c.d)
		i, e := feed.FirstWeak(n, at(n, 0))
		is(t, i, e, c.want)
	}
	for _, n := range []api.FeedNet{ring(30, 30, 30), ring(30, 21, 30)} {
		i, e := feed.FirstWeak(n, at(n, 0))
		refused(t, "strong", i, e, api.ErrNone)
	}
	n := single(9, train("x", 0, 0, 1))
	i, e := feed.FirstWeak(n, nil)
	is(t, i, e, 0) // its section has no other one
	n.Stations = append(n.Stations, api.FeedStation{Name: "b"})
	n.Sections[0] = api.FeedSection{Left: 1, Right: -1, Share: 1000}
	i, e = feed.FirstWeak(n, nil)
	is(t, i, e, 1)
	i, e = feed.FirstWeak(n, at(n, 0))
	is(t, i, e, 0) // b is exceeded without a, too
	// Without b what it is given reaches a; without c, which feeds nothing, a is exceeded as it is with it.
	back := ring(4, 4, 0)
	back.Sections = []api.FeedSection{{Left: 0, Right: 1, Share: 1000}, {Left: 0, Right: 1}}
	back.Trains = []api.FeedTrain{train("x", 0, 0, 5), {Name: "y", Steps: []api.FeedStep{{Section: 1, Power: -3}}}}
	i, e = feed.FirstWeak(back, at(back, 0, 0))
	is(t, i, e, 2)
}

// P7.5: by the definition.
func TestFirstWeakOfAny(t *testing.T) {
	found := map[bool]int{}
	eachNet(func(r *rand.Rand, n api.FeedNet, l []api.FeedDeparture) {
		i, e := feed.FirstWeak(n, l)
		for station := range n.Stations {
			x, isWeak := without(n, []int{station})
			if !isWeak {
				_, isWeak = over(x, l)
			}
			if isWeak {
				found[true]++
				is(t, i, e, station)
				return
			}
		}
		found[false]++
		refused(t, "FirstWeak", i, e, api.ErrNone)
	})
	if found[true] < 50 || found[false] < 10 {
		t.Error(found)
	}
}
