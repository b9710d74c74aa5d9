package feed_test

import (
	"math/rand"
	"slices"
	"strconv"
	"testing"

	"guideway/api"
	"guideway/feed"
)

// P7.4: departures with one more.
func TestAccept(t *testing.T) {
	n := example(2900)
	l, e := feed.Accept(n, nil, api.FeedDeparture{Train: "y", At: 1})
	isList(t, l, e, api.FeedDeparture{Train: "y", At: 1})
	l, e = feed.Accept(n, l, api.FeedDeparture{Train: "x", At: 2})
	isList(t, l, e, api.FeedDeparture{Train: "y", At: 1}, api.FeedDeparture{Train: "x", At: 2})
	l, e = feed.Accept(n, at(n, 0), api.FeedDeparture{Train: "y"})
	refused(t, "the load of a", l, e, api.ErrRefused)
	l, e = feed.Accept(n, at(n, 0), api.FeedDeparture{Train: "y", At: 2})
	refused(t, "late", l, e, api.ErrLate)
	n.Stations[0].Limit = 2970
	l, e = feed.Accept(n, at(n, 0), api.FeedDeparture{Train: "y"})
	isList(t, l, e, at(n, 0, 0)...)
	// Of the others it is not asked whether they are late, but whether they exceed something.
	l, e = feed.Accept(n, at(n, 9), api.FeedDeparture{Train: "y"})
	isList(t, l, e, at(n, 9, 0)...)
	n.Stations[0].Limit = 1400
	l, e = feed.Accept(n, []api.FeedDeparture{{Train: "y", At: 9}}, api.FeedDeparture{Train: "x"})
	refused(t, "the load of another one", l, e, api.ErrRefused)
	// One that feeds back may make up for it.
	back := single(4, train("x", 0, 0, 5), train("y", 2, 4, -1))
	l, e = feed.Accept(back, at(back, 3), api.FeedDeparture{Train: "y", At: 3})
	isList(t, l, e, at(back, 3, 3)...)
	for _, tick := range []int{2, 4} {
		l, e = feed.Accept(back, at(back, 3), api.FeedDeparture{Train: "y", At: tick})
		refused(t, "elsewhere", l, e, api.ErrRefused)
	}
	for _, tick := range []int{0, 1, 5, 1000} {
		l, e = feed.Accept(back, at(back, 3), api.FeedDeparture{Train: "y", At: tick})
		refused(t, "not in time", l, e, api.ErrLate)
	}
}

// P7.4: by the definitions.
func TestAcceptOfAny(t *testing.T) {
	found := map[api.Errno]int{}
	eachNet(func(r *rand.Rand, n api.FeedNet, l []api.FeedDeparture) {
		for _, x := range n.Trains {
			if slices.ContainsFunc(l, func(d api.FeedDeparture) bool { return d.Train == x.Name }) {
				continue
			}
			for tick := max(0, x.Earliest-2); tick <= x.Latest+2; tick++ {
				all := append(slices.Clone(l), api.FeedDeparture{Train: x.Name, At: tick})
				_, isOver := over(n, all)
				got, e := feed.Accept(n, l, all[len(l)])
				found[e]++
				switch {
				case tick < x.Earliest || tick > x.Latest:
					refused(t, "Accept", got, e, api.ErrLate)
				case isOver:
					refused(t, "Accept", got, e, api.ErrRefused)
				default:
					isList(t, got, e, all...)
				}
			}
		}
	})
	if found[api.OK] < 50 || found[api.ErrRefused] < 50 || found[api.ErrLate] < 50 {
		t.Error(found)
	}
}

// isPlan fails if a net has not this plan as its best one.
func isPlan(t *testing.T, n api.FeedNet, delay int, ticks ...int) {
	t.Helper()
	l, got, e := feed.BestPlan(n)
	isList(t, l, e, at(n, ticks...)...)
	is(t, got, e, delay)
}

// isNoPlan fails if a net has a plan.
func isNoPlan(t *testing.T, n api.FeedNet) {
	t.Helper()
	l, delay, e := feed.BestPlan(n)
	refused(t, "BestPlan", l, e, api.ErrNone)
	refused(t, "BestPlan's delay", delay, e, api.ErrNone)
}

// P7.4: plans of small nets.
func TestBestPlan(t *testing.T) {
	isPlan(t, example(2970), 0, 0, 0)
	isPlan(t, example(2900), 1, 0, 1)
	isPlan(t, example(1650), 1, 0, 1)
	isNoPlan(t, example(1649))
	isPlan(t, single(0), 0)
	isPlan(t, single(5, train("x", 3, 10, 5)), 0, 3)
	isPlan(t, single(5, train("x", 1000, 1000, 5)), 0, 1000)
	isNoPlan(t, single(5, train("x", 3, 10, 6)))
	// Of plans of one delay the lexicographically first one counts: x waits rather than y only if y's wait is longer.
	isPlan(t, single(5, train("x", 0, 7, 5), train("y", 0, 7, 5)), 1, 0, 1)
	isPlan(t, single(5, train("x", 0, 7, 5), train("y", 0, 7, 5), train("z", 0, 7, 5), train("u", 0, 7, 5)), 6, 0, 1, 2, 3)
	isPlan(t, single(5, train("x", 0, 7, 5, 5, 5), train("y", 0, 7, 5)), 1, 1, 0)
	isPlan(t, single(5, train("x", 2, 4, 5), train("y", 1, 3, 5, 5)), 1, 3, 1)
	isPlan(t, single(5, train("x", 0, 0, 5), train("y", 0, 7, 5, 5), train("z", 0, 7, 5, 5, 5)), 1+3, 0, 1, 3)
	// A later departure may be the only one: what y feeds back comes late.
	isPlan(t, single(3, train("x", 0, 7, 5), train("y", 4, 5, 0, -2)), 5, 5, 4)
	isPlan(t, single(0, train("x", 993, 1000, 1), train("y", 1000, 1000, -1)), 7, 1000, 1000)
	// x at 2 with y at 0, or x at 0 with y at 2, or both at 1.
	isPlan(t, single(4, train("x", 0, 2, 3, 4), train("y", 0, 2, 3, 4)), 2, 0, 2)
	isNoPlan(t, single(4, train("x", 0, 1, 3, 4), train("y", 0, 1, 3, 4)))
}

// P7.4: just as much as is looked at.
func TestLargestPlans(t *testing.T) {
	four := []api.FeedTrain{train("x", 0, 7, 2), train("y", 900, 907, 2), train("z", 0, 7, 2), train("u", 0, 7, 2)}
	isPlan(t, single(2, four...), 3, 0, 900, 1, 2)
	l, _, e := feed.BestPlan(single(2, append(slices.Clone(four), train("v", 0, 0, 2))...))
	refused(t, "5 trains", l, e, api.ErrLarge)
	nine := slices.Clone(four)
	nine[3].Latest = 8
	l, _, e = feed.BestPlan(single(2, nine...))
	refused(t, "9 departures", l, e, api.ErrLarge)
	isNoPlan(t, single(1, four...))
	// The one plan is the last one that is looked at: x needs what all others feed back, and u is there in the tick 7 alone.
	last := single(1, train("x", 0, 7, 4), train("y", 0, 7, -1), train("z", 0, 7, -1), train("u", 7, 7, -1))
	isPlan(t, last, 21, 7, 7, 7, 7)
}

// P7.4, P7.10: by looking at all plans.
func TestBestOfAllPlans(t *testing.T) {
	r := rand.New(rand.NewSource(2))
	found, delays := map[bool]int{}, map[int]int{}
	for i := range 300 {
		n := randomNet(r, 4, 4)
		if i%30 == 0 {
			n = randomNet(r, 4, 8)
		}
		var best []api.FeedDeparture
		isFound := false
		eachPlan(n, func(l []api.FeedDeparture) bool {
			if isFound && delay(n, l) >= delay(n, best) {
				return true
			}
			if _, isOver := over(n, l); !isOver {
				best, isFound = l, true
			}
			return true
		})
		found[isFound]++
		if !isFound {
			isNoPlan(t, n)
			continue
		}
		delays[delay(n, best)]++
		isPlan(t, n, delay(n, best), ticksOf(best)...)
	}
	if found[true] < 50 || found[false] < 20 || len(delays) < 5 {
		t.Error(found, delays)
	}
}

// P7.4: the same each time, whichever of the plans are found first.
func TestPlansAreTheSame(t *testing.T) {
	n := single(2, train("x", 0, 7, 2), train("y", 0, 7, 2), train("z", 0, 7, 2), train("u", 0, 7, 2))
	for range 20 {
		isPlan(t, n, 6, 0, 1, 2, 3)
	}
}

// mustFeed is what a window must feed, by its definition.
func mustFeed(n api.FeedNet, w api.FeedWindow) int {
	sum := 0
	for _, t := range n.Trains {
		var all []int
		for tick := t.Earliest; tick <= t.Latest; tick++ {
			one := 0
			for k, step := range t.Steps {
				if s := n.Sections[step.Section]; tick+k >= w.Ticks.Lo && tick+k <= w.Ticks.Hi {
					one += step.Power * (1000 + s.Loss) * feeds(s, w.Station)
				}
			}
			all = append(all, one)
		}
		sum += slices.Min(all)
	}
	return sum
}

// proves tells whether a window proves that there is no plan, by the definition.
func proves(n api.FeedNet, w api.FeedWindow) bool {
	return mustFeed(n, w) > 1000000*n.Stations[w.Station].Limit*(w.Ticks.Hi-w.Ticks.Lo+1)
}

// window is that of a substation, and of some ticks.
func window(station, lo, hi int) api.FeedWindow {
	return api.FeedWindow{Station: station, Ticks: api.Range{Lo: lo, Hi: hi}}
}

// P7.4: windows of small nets.
func TestCheckWindow(t *testing.T) {
	check := func(n api.FeedNet, w api.FeedWindow, want int) {
		t.Helper()
		x, e := feed.CheckWindow(n, w)
		is(t, x, e, want)
	}
	n := example(500)
	n.Trains[0].Latest, n.Trains[1].Latest = 0, 0
	check(n, window(0, 0, 0), 2970000000)
	check(n, window(0, 0, 4), 2970000000)
	x, e := feed.CheckWindow(n, window(0, 0, 5))
	refused(t, "as much as it may feed", x, e, api.ErrProof)
	x, e = feed.CheckWindow(n, window(0, 1, 1))
	refused(t, "nothing", x, e, api.ErrProof)
	n.Stations[0].Limit, n.Stations[1].Limit = 2969, 1979
	check(n, window(0, 0, 0), 2970000000)
	check(n, window(1, 0, 0), 1980000000)
	n.Stations[0].Limit, n.Stations[1].Limit = 2970, 1980
	x, e = feed.CheckWindow(n, window(0, 0, 0))
	refused(t, "just the limit", x, e, api.ErrProof)
	// The least departure of each train counts; a loss of what is fed back is reckoned as one of what is used.
	wide := single(0, train("x", 0, 9, 5, 1), train("y", 0, 0, -1, 0, 3))
	wide.Sections[0].Loss = 500
	check(wide, window(0, 0, 10), 9000000+3000000)
	check(wide, window(0, 1, 10), 1500000+4500000)
	check(wide, window(0, 2, 2), 4500000)
	for _, w := range []api.FeedWindow{window(0, 0, 0), window(0, 0, 1), window(0, 1, 1), window(0, 3, 11), window(0, 500, 1012)} {
		x, e = feed.CheckWindow(wide, w)
		refused(t, "the least one", x, e, api.ErrProof)
	}
	// The ends of all ticks.
	late := single(0, train("x", 0, 1000, 0, 0, 0, 0, 0, 0, 0, 0, 0, 0, 0, 1))
	check(late, window(0, 0, 1012), 1000000)
	check(late, window(0, 11, 1011), 1000000)
	x, e = feed.CheckWindow(late, window(0, 12, 1012))
	refused(t, "the first departure", x, e, api.ErrProof)
	x, e = feed.CheckWindow(late, window(0, 0, 1010))
	refused(t, "the last departure", x, e, api.ErrProof)
	check(single(0, train("x", 1000, 1000, 1)), window(0, 1000, 1000), 1000000)
	x, e = feed.CheckWindow(single(0), window(0, 0, 1012))
	refused(t, "no trains", x, e, api.ErrProof)
}

// P7.4: windows by the definition, and the first one of them.
func TestWindows(t *testing.T) {
	r := rand.New(rand.NewSource(3))
	found := map[bool]int{}
	for range 300 {
		n := randomNet(r, 4, 3)
		first, isFound := api.FeedWindow{}, false
		for station := range n.Stations {
			for lo := range 20 {
				for hi := lo; hi < 20; hi++ {
					w := window(station, lo, hi)
					isProof := proves(n, w)
					if isProof && !isFound {
						first, isFound = w, true
					}
					x, e := feed.CheckWindow(n, w)
					if isProof {
						is(t, x, e, mustFeed(n, w))
					} else {
						refused(t, "CheckWindow", x, e, api.ErrProof)
					}
				}
			}
		}
		found[isFound]++
		w, e := feed.FirstWindow(n)
		if isFound {
			is(t, w, e, first)
		} else {
			refused(t, "FirstWindow", w, e, api.ErrNone)
		}
	}
	if found[true] < 20 || found[false] < 50 {
		t.Error(found)
	}
}

// P7.4: the least substation, then the least first tick, then the least last one.
func TestFirstWindow(t *testing.T) {
	check := func(n api.FeedNet, want api.FeedWindow) {
		t.Helper()
		w, e := feed.FirstWindow(n)
		is(t, w, e, want)
	}
	n := example(500)
	n.Trains[0].Latest, n.Trains[1].Latest = 0, 0
	check(n, window(0, 0, 0))
	n.Stations[0].Limit, n.Stations[1].Limit = 3000, 0
	check(n, window(1, 0, 0))
	check(single(4, train("x", 3, 3, 5)), window(0, 3, 3))
	check(single(3, train("x", 3, 3, 5)), window(0, 3, 3))
	check(single(2, train("x", 3, 3, 5)), window(0, 2, 3))
	check(single(0, train("x", 3, 3, 5)), window(0, 0, 3))
	check(single(0, train("x", 3, 5, 5)), window(0, 0, 5))
	check(single(3, train("x", 3, 3, 3, -5), train("y", 3, 4, 0, 0, 2, 9)), window(0, 5, 7))
	w, e := feed.FirstWindow(single(5, train("x", 3, 3, 5)))
	refused(t, "enough", w, e, api.ErrNone)
	w, e = feed.FirstWindow(single(0))
	refused(t, "no trains", w, e, api.ErrNone)
	// The last departure of which windows are looked for, and the last tick of such a train.
	last := train("x", 48, 48, 0, 0, 0, 0, 0, 0, 0, 0, 0, 0, 0, 7)
	check(single(6, last), window(0, 59, 59))
	check(single(0, last), window(0, 0, 59))
	check(single(1, train("y", 0, 0, 1), last), window(0, 54, 59))
	last.Latest = 49
	w, e = feed.FirstWindow(single(0, last))
	refused(t, "too late", w, e, api.ErrLarge)
}

// P7.4: just as much as is looked at.
func TestLargestWindows(t *testing.T) {
	n := largest()
	n.Trains = n.Trains[:4]
	for i := range n.Trains {
		n.Trains[i].Earliest, n.Trains[i].Latest = 41, 48
	}
	w, e := feed.FirstWindow(n)
	refused(t, "FirstWindow", w, e, api.ErrNone)
	n.Trains[3].Earliest = 40
	w, e = feed.FirstWindow(n)
	refused(t, "9 departures", w, e, api.ErrLarge)
	n.Trains[3].Earliest = 48
	n.Trains = append(n.Trains, train("x", 48, 48, 1))
	w, e = feed.FirstWindow(n)
	refused(t, strconv.Itoa(len(n.Trains)), w, e, api.ErrLarge)
}
