package feed_test

import (
	"cmp"
	"math"
	"math/rand"
	"reflect"
	"slices"
	"testing"

	"guideway/api"
)

// example is the net of the chapter's examples, with a limit of a.
func example(limit int) api.FeedNet {
	return api.FeedNet{
		Stations: []api.FeedStation{{Name: "a", Limit: limit}, {Name: "b", Limit: 2000, Takes: true}},
		Sections: []api.FeedSection{{Left: 0, Right: 1, Share: 600, Loss: 100}, {Left: api.FeedNone, Right: 1}},
		Trains: []api.FeedTrain{
			{Name: "x", Latest: 2, Steps: []api.FeedStep{{Power: 2000}, {Section: 1, Power: -500}}},
			{Name: "y", Latest: 1, Steps: []api.FeedStep{{Power: 2500}}},
		},
	}
}

// single is a net of one substation and one section, and of trains that are there alone.
func single(limit int, trains ...api.FeedTrain) api.FeedNet {
	return api.FeedNet{
		Stations: []api.FeedStation{{Name: "a", Limit: limit}},
		Sections: []api.FeedSection{{Right: api.FeedNone, Share: api.FeedWhole}},
		Trains:   trains,
	}
}

// train is one that has its steps in the section 0.
func train(name string, earliest, latest int, powers ...int) api.FeedTrain {
	t := api.FeedTrain{Name: name, Earliest: earliest, Latest: latest}
	for _, power := range powers {
		t.Steps = append(t.Steps, api.FeedStep{Power: power})
	}
	return t
}

// largest has as much of everything as a net may have.
func largest() api.FeedNet {
	var n api.FeedNet
	for i := range 6 {
		n.Stations = append(n.Stations, api.FeedStation{Name: "abcdefghij-" + string(rune('0'+i)), Limit: 100000, Takes: i%2 == 0})
		n.Trains = append(n.Trains, api.FeedTrain{Name: string(rune('s' + i)), Earliest: 200 * i, Latest: 1000, Steps: make([]api.FeedStep, 12)})
		for k := range 12 {
			n.Trains[i].Steps[k] = api.FeedStep{Section: (i + k) % 10, Power: 20000 - 40000*(k%2)}
		}
	}
	for i := range 10 {
		n.Sections = append(n.Sections, api.FeedSection{Left: i % 6, Right: (i + 1) % 6, Share: 100 * i, Loss: 500})
	}
	n.Sections[8] = api.FeedSection{Left: 2, Right: -1, Share: 1000, Loss: 500}
	n.Sections[9] = api.FeedSection{Left: -1, Right: 2}
	return n
}

// copied is a net that shares no memory with another one.
func copied(n api.FeedNet) api.FeedNet {
	n.Stations, n.Sections, n.Trains = slices.Clone(n.Stations), slices.Clone(n.Sections), slices.Clone(n.Trains)
	for i, t := range n.Trains {
		n.Trains[i].Steps = slices.Clone(t.Steps)
	}
	return n
}

// at are departures of the first trains of a net, in these ticks.
func at(n api.FeedNet, ticks ...int) []api.FeedDeparture {
	list := make([]api.FeedDeparture, len(ticks))
	for i, tick := range ticks {
		list[i] = api.FeedDeparture{Train: n.Trains[i].Name, At: tick}
	}
	return list
}

// ticksOf undoes at.
func ticksOf(l []api.FeedDeparture) []int {
	list := make([]int, len(l))
	for i, d := range l {
		list[i] = d.At
	}
	return list
}

// outside are numbers that are not from lo to hi.
func outside(lo, hi int) []int {
	return []int{lo - 1, hi + 1, math.MinInt, math.MaxInt}
}

// isZero tells whether a result is its zero value, or an empty list.
func isZero(x any) bool {
	v := reflect.ValueOf(x)
	return !v.IsValid() || v.IsZero() || v.Kind() == reflect.Slice && v.Len() == 0
}

// refused fails if a call has not this error, or another result beside it.
func refused(t *testing.T, name string, result any, e, want api.Errno) {
	t.Helper()
	if e != want || !isZero(result) {
		t.Error(name, result, e, want)
	}
}

// isList fails if a call has not this list as its result.
func isList[T comparable](t *testing.T, got []T, e api.Errno, want ...T) {
	t.Helper()
	if e != api.OK || !slices.Equal(got, want) {
		t.Error(got, e, want)
	}
}

// is fails if a call has not this result.
func is[T comparable](t *testing.T, got T, e api.Errno, want T) {
	t.Helper()
	if e != api.OK || got != want {
		t.Error(got, e, want)
	}
}

// one is any element of a list.
func one[T any](r *rand.Rand, list ...T) T {
	return list[r.Intn(len(list))]
}

// randomNet is a net with at most so many trains, and so many departures of each. Its powers are such that loads are often
// just whole kilowatts; its limits are often near the loads of some departures.
func randomNet(r *rand.Rand, trains, choice int) api.FeedNet {
	var n api.FeedNet
	for i := range 1 + r.Intn(4) {
		n.Stations = append(n.Stations, api.FeedStation{Name: string(rune('a' + i)), Limit: 100000, Takes: r.Intn(2) == 0})
	}
	for range 1 + r.Intn(one(r, 1, 2, 5)) {
		n.Sections = append(n.Sections, randomSection(r, len(n.Stations)))
	}
	for i := range r.Intn(trains + 1) {
		t := api.FeedTrain{Name: string(rune('t' + i)), Earliest: r.Intn(one(r, 1, 2, 4))}
		t.Latest = t.Earliest + r.Intn(choice)
		for range 1 + r.Intn(one(r, 1, 3, 12)) {
			t.Steps = append(t.Steps, api.FeedStep{Section: r.Intn(len(n.Sections)), Power: one(r, 100, 200, 200, 300, 300, 1000, -100, -300, 0, 137, -4321)})
		}
		n.Trains = append(n.Trains, t)
	}
	l := randomDepartures(r, n)
	for i := range n.Stations {
		peak := 0
		for tick := range 30 {
			peak = max(peak, load(n, l, i, tick))
		}
		n.Stations[i].Limit = min(100000, max(0, peak/1000000*one(r, 2, 3, 4, 4, 4, 6)/4+one(r, 0, 0, 0, -1, 1, 100000)))
	}
	return n
}

func randomSection(r *rand.Rand, stations int) api.FeedSection {
	s := api.FeedSection{Left: r.Intn(stations), Right: r.Intn(stations), Share: one(r, 0, 300, 500, 600, 1000, 123), Loss: one(r, 0, 0, 100, 500, 77)}
	switch {
	case s.Left == s.Right && r.Intn(2) == 0:
		s.Left, s.Share = api.FeedNone, 0
	case s.Left == s.Right:
		s.Right, s.Share = api.FeedNone, 1000
	}
	return s
}

// randomDepartures are departures of some trains, in any order; some are late, or early.
func randomDepartures(r *rand.Rand, n api.FeedNet) []api.FeedDeparture {
	var l []api.FeedDeparture
	for _, i := range r.Perm(len(n.Trains)) {
		if t := n.Trains[i]; r.Intn(6) > 0 {
			l = append(l, api.FeedDeparture{Train: t.Name, At: max(0, t.Earliest-1+r.Intn(t.Latest-t.Earliest+3))})
		}
	}
	return l
}

// eachNet calls a function with several nets, and departures in them.
func eachNet(f func(r *rand.Rand, n api.FeedNet, l []api.FeedDeparture)) {
	r := rand.New(rand.NewSource(1))
	for _, limit := range []int{3000, 2970, 2969, 1500, 0} {
		n := example(limit)
		for x := range 3 {
			f(r, n, at(n, x))
			f(r, n, at(n, x, 0))
			f(r, n, at(n, x, 1))
		}
	}
	for range 400 {
		n := randomNet(r, 6, 4)
		f(r, n, randomDepartures(r, n))
	}
}

// power is the net power of a section in a tick, by its definition.
func power(n api.FeedNet, l []api.FeedDeparture, section, tick int) int {
	sum := 0
	for _, d := range l {
		for _, t := range n.Trains {
			for k, step := range t.Steps {
				if t.Name == d.Train && d.At+k == tick && step.Section == section {
					sum += step.Power
				}
			}
		}
	}
	return sum
}

// drawn is what is drawn for a section in a tick, by its definition.
func drawn(n api.FeedNet, l []api.FeedDeparture, section, tick int) int {
	if p := power(n, l, section, tick); p >= 0 {
		return p * (1000 + n.Sections[section].Loss)
	} else {
		return p * (1000 - n.Sections[section].Loss)
	}
}

// feeds is how many thousandths of a section a substation feeds.
func feeds(s api.FeedSection, station int) int {
	sum := 0
	if s.Left == station {
		sum += s.Share
	}
	if s.Right == station {
		sum += 1000 - s.Share
	}
	return sum
}

// load is the load of a substation in a tick, by its definition.
func load(n api.FeedNet, l []api.FeedDeparture, station, tick int) int {
	sum := 0
	for i, s := range n.Sections {
		sum += drawn(n, l, i, tick) * feeds(s, station)
	}
	return sum
}

// ticks are 0, and all ticks up to the last one in which trains run, and a further one.
func ticks(n api.FeedNet, l []api.FeedDeparture) int {
	count := 1
	for _, d := range l {
		for _, t := range n.Trains {
			if t.Name == d.Train {
				count = max(count, d.At+len(t.Steps)+1)
			}
		}
	}
	return count
}

// over is the first load that is exceeded, by the definition; false if there is none.
func over(n api.FeedNet, l []api.FeedDeparture) (api.FeedPeak, bool) {
	for tick := range ticks(n, l) {
		for i, s := range n.Stations {
			if x := load(n, l, i, tick); x > 1000000*s.Limit {
				return api.FeedPeak{Tick: tick, Station: i, Load: x}, true
			}
		}
	}
	return api.FeedPeak{}, false
}

// lesserSet compares sets as R8 tells.
func lesserSet(a, b []int) int {
	return cmp.Or(cmp.Compare(len(a), len(b)), slices.Compare(a, b))
}

// eachPlan calls a function with all lists of departures from Earliest to Latest, in order, until it answers false.
func eachPlan(n api.FeedNet, f func(l []api.FeedDeparture) bool) bool {
	var choose func(l []api.FeedDeparture) bool
	choose = func(l []api.FeedDeparture) bool {
		if len(l) == len(n.Trains) {
			return f(slices.Clone(l))
		}
		t := n.Trains[len(l)]
		for tick := t.Earliest; tick <= t.Latest; tick++ {
			if !choose(append(slices.Clone(l), api.FeedDeparture{Train: t.Name, At: tick})) {
				return false
			}
		}
		return true
	}
	return choose(nil)
}

// delay is that of departures of all trains, in their order.
func delay(n api.FeedNet, l []api.FeedDeparture) int {
	sum := 0
	for i, d := range l {
		sum += d.At - n.Trains[i].Earliest
	}
	return sum
}
