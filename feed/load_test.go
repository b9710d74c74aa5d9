package feed_test

import (
	"math/rand"
	"slices"
	"testing"

	"guideway/api"
	"guideway/feed"
)

// P7.2: the chapter's examples 1 and 2.
func TestLoadsOfTheExample(t *testing.T) {
	n := example(3000)
	for _, c := range []struct {
		l    []api.FeedDeparture
		tick int
		want []int
	}{
		{at(n, 0), 0, []int{1320000000, 880000000}},
		{at(n, 0), 1, []int{0, -500000000}},
		{at(n, 0, 0), 0, []int{2970000000, 1980000000}},
		{at(n, 0, 0), 1, []int{0, -500000000}},
		{at(n, 0, 1), 1, []int{1650000000, 600000000}},
		{at(n, 5), 4, []int{0, 0}},
		{at(n, 5), 7, []int{0, 0}},
		{nil, 0, []int{0, 0}},
		{nil, 1012, []int{0, 0}},
		{at(n, 1000), 1000, []int{1320000000, 880000000}},
		{at(n, 1000), 1001, []int{0, -500000000}},
	} {
		l, e := feed.LoadsAt(n, c.l, c.tick)
		isList(t, l, e, c.want...)
	}
	for section, want := range []int{4500, 0} {
		x, e := feed.PowerAt(n, at(n, 0, 0), section, 0)
		is(t, x, e, want)
	}
	x, e := feed.PowerAt(n, at(n, 0, 0), 1, 1)
	is(t, x, e, -500)
}

// P7.2: powers are added before losses are reckoned; of energy that is fed back what is lost is taken off.
func TestLosses(t *testing.T) {
	n := single(0, train("x", 0, 0, 300, 300, -100), train("y", 0, 0, -100, -500, -100))
	n.Sections[0].Loss = 100
	for tick, want := range []int{220000000, -180000000, -180000000, 0} {
		l, e := feed.LoadsAt(n, at(n, 0, 0), tick)
		isList(t, l, e, want)
	}
}

// P7.2: a section's ends in any order, and ends that feed nothing; a substation without sections.
func TestShares(t *testing.T) {
	n := single(0, train("x", 0, 0, 7))
	n.Stations = append(n.Stations, api.FeedStation{Name: "b"}, api.FeedStation{Name: "c"})
	for _, c := range []struct {
		s    api.FeedSection
		want []int
	}{
		{api.FeedSection{Left: 0, Right: 1, Share: 250}, []int{1750000, 5250000, 0}},
		{api.FeedSection{Left: 1, Right: 0, Share: 250}, []int{5250000, 1750000, 0}},
		{api.FeedSection{Left: 2, Right: 0, Share: 1000}, []int{0, 0, 7000000}},
		{api.FeedSection{Left: 2, Right: 0, Share: 0}, []int{7000000, 0, 0}},
		{api.FeedSection{Left: 1, Right: -1, Share: 1000}, []int{0, 7000000, 0}},
		{api.FeedSection{Left: -1, Right: 1, Share: 0}, []int{0, 7000000, 0}},
		{api.FeedSection{Left: 2, Right: 1, Share: 500, Loss: 500}, []int{0, 5250000, 5250000}},
	} {
		n.Sections[0] = c.s
		l, e := feed.LoadsAt(n, at(n, 0), 0)
		isList(t, l, e, c.want...)
	}
}

// P7.2: by the definitions.
func TestLoads(t *testing.T) {
	eachNet(func(r *rand.Rand, n api.FeedNet, l []api.FeedDeparture) {
		for tick := range ticks(n, l) {
			for section := range n.Sections {
				x, e := feed.PowerAt(n, l, section, tick)
				is(t, x, e, power(n, l, section, tick))
			}
			want := make([]int, len(n.Stations))
			for station := range n.Stations {
				want[station] = load(n, l, station, tick)
			}
			loads, e := feed.LoadsAt(n, l, tick)
			isList(t, loads, e, want...)
		}
	})
}

// P7.2: as much of everything as there may be.
func TestLargestLoads(t *testing.T) {
	n := largest()
	l := at(n, 0, 1000, 1, 1000, 5, 988)
	for _, tick := range []int{0, 5, 6, 12, 16, 999, 1000, 1001, 1011, 1012} {
		want := make([]int, 6)
		for station := range want {
			want[station] = load(n, l, station, tick)
		}
		loads, e := feed.LoadsAt(n, l, tick)
		isList(t, loads, e, want...)
	}
}

// P7.2: the first tick with the greatest load, of all ticks that there are.
func TestPeakOf(t *testing.T) {
	peak := func(n api.FeedNet, l []api.FeedDeparture, station int, want api.FeedPeak) {
		t.Helper()
		x, e := feed.PeakOf(n, l, station)
		is(t, x, e, want)
	}
	n := example(0)
	peak(n, at(n, 0), 1, api.FeedPeak{Station: 1, Load: 880000000})
	peak(n, at(n, 3), 0, api.FeedPeak{Tick: 3, Load: 1320000000})
	peak(n, at(n, 0, 1), 0, api.FeedPeak{Tick: 1, Load: 1650000000})
	peak(n, nil, 1, api.FeedPeak{Station: 1})
	last := single(0, train("x", 0, 0, 1, 2, 2, 1, -1, 0, 0, 0, 0, 0, 0, 3))
	peak(last, at(last, 1000), 0, api.FeedPeak{Tick: 1011, Load: 3000000})
	peak(last, at(last, 1), 0, api.FeedPeak{Tick: 12, Load: 3000000})
	twice := single(0, train("x", 0, 0, 1, 2, 2, 1, 2))
	peak(twice, at(twice, 4), 0, api.FeedPeak{Tick: 5, Load: 2000000})
	back := single(0, train("x", 0, 0, -5, -4))
	peak(back, at(back, 0), 0, api.FeedPeak{Tick: 2})
	peak(back, at(back, 1), 0, api.FeedPeak{})
	eachNet(func(r *rand.Rand, n api.FeedNet, l []api.FeedDeparture) {
		for station := range n.Stations {
			want := api.FeedPeak{Station: station, Load: load(n, l, station, 0)}
			for tick := range ticks(n, l) {
				if x := load(n, l, station, tick); x > want.Load {
					want.Tick, want.Load = tick, x
				}
			}
			peak(n, l, station, want)
		}
	})
}

// P7.2: the first load that is exceeded; one that is just the limit is not.
func TestFirstOver(t *testing.T) {
	n := example(2970)
	x, e := feed.FirstOver(n, at(n, 0, 0))
	refused(t, "just the limit", x, e, api.ErrNone)
	n.Stations[0].Limit = 2969
	x, e = feed.FirstOver(n, at(n, 0, 0))
	is(t, x, e, api.FeedPeak{Load: 2970000000})
	n.Stations[1].Limit = 0
	x, e = feed.FirstOver(n, at(n, 7, 7))
	is(t, x, e, api.FeedPeak{Tick: 7, Load: 2970000000})
	n.Stations[0].Limit = 100000
	x, e = feed.FirstOver(n, at(n, 1000, 999))
	is(t, x, e, api.FeedPeak{Tick: 999, Station: 1, Load: 1100000000})
	x, e = feed.FirstOver(n, nil)
	refused(t, "no departures", x, e, api.ErrNone)
	back := single(0, train("x", 0, 0, -20000))
	x, e = feed.FirstOver(back, at(back, 0))
	refused(t, "below 0", x, e, api.ErrNone)
	last := single(2, train("x", 0, 0, 1, 2, 2, 1, -1, 0, 0, 0, 0, 0, 0, 3))
	x, e = feed.FirstOver(last, at(last, 1000))
	is(t, x, e, api.FeedPeak{Tick: 1011, Load: 3000000})
	found := map[bool]int{}
	eachNet(func(r *rand.Rand, n api.FeedNet, l []api.FeedDeparture) {
		want, isOver := over(n, l)
		found[isOver]++
		x, e := feed.FirstOver(n, l)
		if isOver {
			is(t, x, e, want)
		} else {
			refused(t, "FirstOver", x, e, api.ErrNone)
		}
	})
	if found[true] < 50 || found[false] < 50 {
		t.Error(found)
	}
}

// P7.3: the least set that exceeds a limit, and its names.
func TestLeastOver(t *testing.T) {
	check := func(n api.FeedNet, l []api.FeedDeparture, want ...int) {
		t.Helper()
		set, e := feed.LeastOver(n, l)
		isList(t, set, e, want...)
		var names []string
		for _, i := range want {
			names = append(names, l[i].Train)
		}
		list, e := feed.Exceeded(n, l)
		isList(t, list, e, names...)
	}
	n := example(2900)
	check(n, at(n, 0, 0), 0, 1)
	n.Stations[0].Limit = 1500
	check(n, at(n, 0, 0), 1)
	n.Stations[0].Limit = 0
	check(n, at(n, 0, 0), 0)
	check(n, []api.FeedDeparture{{Train: "y", At: 4}, {Train: "x"}}, 0)
	n.Stations[0].Limit, n.Stations[1].Limit = 100000, 0
	check(n, []api.FeedDeparture{{Train: "y", At: 4}}, 0)
	// What all exceed together is 3 of them; the first three in lexicographic order count.
	six := single(2, train("a", 0, 0, 1), train("b", 0, 0, 1), train("c", 0, 0, 1), train("d", 0, 0, 1), train("e", 0, 0, 1), train("f", 0, 0, 1))
	check(six, at(six, 0, 0, 0, 0, 0, 0), 0, 1, 2)
	check(six, at(six, 5, 0, 5, 0, 5, 0), 0, 2, 4)
	check(six, at(six, 0, 1, 2, 2, 1, 2), 2, 3, 5)
	six.Stations[0].Limit = 5
	check(six, at(six, 9, 9, 9, 9, 9, 9), 0, 1, 2, 3, 4, 5)
	set, e := feed.LeastOver(six, at(six, 9, 9, 9, 9, 9, 8))
	refused(t, "no set", set, e, api.ErrNone)
	// All together do not exceed the limit: the last one feeds back.
	back := single(4, train("a", 0, 0, 3), train("b", 0, 0, 3), train("c", 0, 0, -2))
	if x, e := feed.FirstOver(back, at(back, 0, 0, 0)); e != api.ErrNone {
		t.Error(x, e)
	}
	check(back, at(back, 0, 0, 0), 0, 1)
	back.Trains[1].Steps[0].Power = 5
	check(back, at(back, 0, 0, 0), 1)
}

// subsets are all sets of numbers below count, in the order of R8.
func subsets(count int) [][]int {
	var sets [][]int
	for mask := range 1 << count {
		var set []int
		for i := range count {
			if mask>>i&1 == 1 {
				set = append(set, i)
			}
		}
		sets = append(sets, set)
	}
	slices.SortFunc(sets, lesserSet)
	return sets
}

// P7.3: by looking at all sets.
func TestLeastOverOfAllSets(t *testing.T) {
	sizes := map[int]int{}
	check := func(r *rand.Rand, n api.FeedNet, l []api.FeedDeparture) {
		set, e := feed.LeastOver(n, l)
		names, f := feed.Exceeded(n, l)
		for _, want := range subsets(len(l)) {
			var alone []api.FeedDeparture
			var wantNames []string
			for _, i := range want {
				alone = append(alone, l[i])
				wantNames = append(wantNames, l[i].Train)
			}
			if _, isOver := over(n, alone); isOver {
				isList(t, set, e, want...)
				isList(t, names, f, wantNames...)
				sizes[len(set)]++
				return
			}
		}
		refused(t, "LeastOver", set, e, api.ErrNone)
		refused(t, "Exceeded", names, f, api.ErrNone)
	}
	eachNet(check)
	r := rand.New(rand.NewSource(4))
	for range 200 {
		n := single(3 + r.Intn(12))
		for i := range 2 + r.Intn(5) {
			n.Trains = append(n.Trains, train(string(rune('a'+i)), 0, 9, 1+r.Intn(4), r.Intn(6)-2))
		}
		check(r, n, randomDepartures(r, n))
		check(r, n, at(n, make([]int, len(n.Trains))...))
	}
	if sizes[1] < 50 || sizes[2] < 50 || sizes[3] < 30 || sizes[4] < 10 {
		t.Error(sizes)
	}
}
