package feed_test

import (
	"math"
	"math/rand"
	"reflect"
	"slices"
	"testing"

	"guideway/api"
	"guideway/feed"
)

// P7.9: what is fed adds up with what is used; the books of neighbouring ranges are those of both together.
func TestBooksAddUp(t *testing.T) {
	eachNet(func(r *rand.Rand, n api.FeedNet, l []api.FeedDeparture) {
		last := ticks(n, l)
		for range 5 {
			lo := r.Intn(last)
			between := lo + r.Intn(last)
			hi := between + 1 + r.Intn(last)
			whole, e := feed.BookOf(n, l, api.Range{Lo: lo, Hi: hi})
			first, f := feed.BookOf(n, l, api.Range{Lo: lo, Hi: between})
			second, g := feed.BookOf(n, l, api.Range{Lo: between + 1, Hi: hi})
			if e != api.OK || f != api.OK || g != api.OK {
				t.Fatal(n, l, e, f, g)
			}
			both, e := feed.Added(first, second)
			is(t, both, e, whole)
			for _, b := range []api.FeedBook{whole, first, second} {
				if b.Fed+b.Braked != b.Used+b.Lost+b.Back+b.Burned {
					t.Error(n, l, b)
				}
			}
		}
	})
}

// P7.10: with what BestPlan and Accept return nothing is exceeded, in any tick.
func TestBelowTheLimit(t *testing.T) {
	r := rand.New(rand.NewSource(5))
	plans, accepted := 0, 0
	for range 300 {
		n := randomNet(r, 4, 4)
		if l, _, e := feed.BestPlan(n); e == api.OK {
			plans++
			if x, e := feed.FirstOver(n, l); e != api.ErrNone || len(l) != len(n.Trains) {
				t.Error(n, l, x)
			}
			for tick := range ticks(n, l) {
				loads, _ := feed.LoadsAt(n, l, tick)
				for station, load := range loads {
					if load > 1000000*n.Stations[station].Limit {
						t.Error(n, l, tick, loads)
					}
				}
			}
		}
		var l []api.FeedDeparture
		for _, i := range r.Perm(len(n.Trains)) {
			x := n.Trains[i]
			next, e := feed.Accept(n, l, api.FeedDeparture{Train: x.Name, At: x.Earliest + r.Intn(x.Latest-x.Earliest+1)})
			if e != api.OK {
				continue
			}
			l = next
			accepted++
			if x, e := feed.FirstOver(n, l); e != api.ErrNone {
				t.Error(n, l, x)
			}
		}
	}
	if plans < 100 || accepted < 300 {
		t.Error(plans, accepted)
	}
}

// P7.11: a window that proves it: then there is no plan.
func TestWindowsProve(t *testing.T) {
	r := rand.New(rand.NewSource(6))
	proofs := 0
	for range 500 {
		n := randomNet(r, 4, 4)
		w, e := feed.FirstWindow(n)
		if e == api.ErrNone {
			continue
		}
		proofs++
		if x, e := feed.CheckWindow(n, w); e != api.OK || x <= 1000000*n.Stations[w.Station].Limit*(w.Ticks.Hi-w.Ticks.Lo+1) {
			t.Error(n, w, x, e)
		}
		isNoPlan(t, n)
	}
	if proofs < 50 {
		t.Error(proofs)
	}
}

// P7.11: with any window, and ticks of which FirstWindow does not look.
func TestAnyWindowProves(t *testing.T) {
	r := rand.New(rand.NewSource(7))
	proofs := 0
	for range 900 {
		n := randomNet(r, 3, 3)
		for i := range n.Trains {
			n.Trains[i].Earliest += 900
			n.Trains[i].Latest += 900
		}
		for range 30 {
			lo := 895 + r.Intn(25)
			if _, e := feed.CheckWindow(n, window(r.Intn(len(n.Stations)), lo, lo+r.Intn(20))); e == api.OK {
				proofs++
				isNoPlan(t, n)
			}
		}
	}
	if proofs < 50 {
		t.Error(proofs)
	}
}

// P7.12: all loads come to all that is drawn; without losses loads are sums.
func TestSuperposed(t *testing.T) {
	eachNet(func(r *rand.Rand, n api.FeedNet, l []api.FeedDeparture) {
		lossless := copied(n)
		for i := range lossless.Sections {
			lossless.Sections[i].Loss = 0
		}
		for tick := range ticks(n, l) {
			loads, _ := feed.LoadsAt(n, l, tick)
			all := 0
			for i, s := range n.Sections {
				power, _ := feed.PowerAt(n, l, i, tick)
				all += power*1000 + max(power, -power)*s.Loss
			}
			if sum(loads) != 1000*all {
				t.Error(n, l, tick, loads, all)
			}
			together, _ := feed.LoadsAt(lossless, l, tick)
			apart := make([]int, len(n.Stations))
			for i := range l {
				alone, _ := feed.LoadsAt(lossless, l[i:i+1], tick)
				for station := range alone {
					apart[station] += alone[station]
				}
			}
			isList(t, together, api.OK, apart...)
		}
	})
}

// P7.2, R1: the order of departures changes nothing but the numbers in sets.
func TestOrderOfDepartures(t *testing.T) {
	eachNet(func(r *rand.Rand, n api.FeedNet, l []api.FeedDeparture) {
		other := slices.Clone(l)
		r.Shuffle(len(other), func(i, j int) { other[i], other[j] = other[j], other[i] })
		x, e := feed.FirstOver(n, l)
		y, f := feed.FirstOver(n, other)
		a, _ := feed.BookOf(n, l, api.Range{Hi: 40})
		b, _ := feed.BookOf(n, other, api.Range{Hi: 40})
		if x != y || e != f || a != b {
			t.Error(n, l, x, y, a, b)
		}
	})
}

// spacious are arguments that a function accepts, with room behind their lists, in which something may be written.
func spacious(f function) arguments {
	a := f.right()
	a.n = copied(a.n)
	a.n.Stations = append(a.n.Stations, api.FeedStation{Limit: 77})[:4]
	a.n.Sections = append(a.n.Sections, api.FeedSection{Loss: 77})[:3]
	a.n.Trains = append(a.n.Trains, api.FeedTrain{Latest: 77})[:3]
	for i, t := range a.n.Trains {
		a.n.Trains[i].Steps = append(t.Steps, api.FeedStep{Power: 77})[:len(t.Steps)]
	}
	a.l = append(slices.Grow(a.l, 5), api.FeedDeparture{At: 77})[:2]
	a.out = append(slices.Grow(a.out, 5), 77)[:2]
	a.ladder.Ohms = append(slices.Grow(a.ladder.Ohms, 5), 77)[:3]
	a.ladder.Loads = append(slices.Grow(a.ladder.Loads, 5), 77)[:2]
	a.currents = append(slices.Grow(a.currents, 5), api.Frac{Num: 77})[:3]
	return a
}

// isRoomy tells whether all 77 are there still.
func isRoomy(a arguments) bool {
	for _, t := range a.n.Trains {
		if t.Steps[:len(t.Steps)+1][len(t.Steps)].Power != 77 {
			return false
		}
	}
	return a.n.Stations[:5][4].Limit == 77 && a.n.Sections[:4][3].Loss == 77 && a.n.Trains[:4][3].Latest == 77 &&
		a.l[:3][2].At == 77 && a.out[:3][2] == 77 && a.ladder.Ohms[:4][3] == 77 && a.ladder.Loads[:3][2] == 77 && a.currents[:4][3].Num == 77
}

// R3: no function writes into its arguments, or behind them.
func TestArgumentsAreKept(t *testing.T) {
	for _, f := range functions() {
		a := spacious(f)
		if _, e := f.call(a); e != api.OK {
			t.Error(f.name, e)
		}
		if !reflect.DeepEqual(a, f.right()) || !isRoomy(a) {
			t.Error(f.name, "writes into", a)
		}
	}
}

// overwritten writes into all of a result, and behind its lists.
func overwritten(result any) {
	switch x := result.(type) {
	case []int:
		overwrite(x, -7)
	case []string:
		overwrite(x, "spoilt")
	case []api.FeedDeparture:
		overwrite(x, api.FeedDeparture{Train: "spoilt", At: -7})
	case []api.Frac:
		overwrite(x, api.Frac{Num: -7})
	case api.FeedNet:
		for _, t := range x.Trains {
			overwrite(t.Steps, api.FeedStep{Power: -7})
		}
		overwrite(x.Stations, api.FeedStation{Limit: -7})
		overwrite(x.Sections, api.FeedSection{Loss: -7})
		overwrite(x.Trains, api.FeedTrain{Latest: -7})
	}
}

func overwrite[T any](list []T, x T) {
	list = list[:cap(list)]
	for i := range list {
		list[i] = x
	}
}

// R3: results share no memory with arguments, nor with other results.
func TestResultsAreNew(t *testing.T) {
	for _, f := range functions() {
		a := spacious(f)
		first, _ := f.call(a)
		second, _ := f.call(a)
		overwritten(first)
		third, e := f.call(a)
		if !reflect.DeepEqual(a, f.right()) || !isRoomy(a) {
			t.Error(f.name, "shares memory with", a)
		}
		if e != api.OK || !reflect.DeepEqual(second, third) {
			t.Error(f.name, second, third)
		}
	}
	// No substation is out: the net is a new one all the same.
	n := plain()
	x, e := feed.Without(n, nil)
	if e != api.OK || !reflect.DeepEqual(x, n) {
		t.Error(x, e)
	}
	overwritten(x)
	if !reflect.DeepEqual(n, plain()) {
		t.Error(n)
	}
}

// R3: the lists of one result share no memory with each other.
func TestListsAreApart(t *testing.T) {
	n := largest()
	x, e := feed.Without(n, nil)
	if e != api.OK {
		t.Fatal(e)
	}
	for i := range x.Trains {
		x.Trains[i].Steps = append(x.Trains[i].Steps, api.FeedStep{Power: 9})
		n.Trains[i].Steps = append(n.Trains[i].Steps, api.FeedStep{Power: 9})
		if !reflect.DeepEqual(x, n) {
			t.Error(i, x)
		}
	}
}

// R5: an empty list is as good as nil.
func TestEmptyLists(t *testing.T) {
	n := single(0)
	n.Trains = []api.FeedTrain{}
	x, e := feed.Accept(plain(), []api.FeedDeparture{}, api.FeedDeparture{Train: "x"})
	isList(t, x, e, api.FeedDeparture{Train: "x"})
	isPlan(t, n, 0)
	loads, e := feed.LoadsAt(n, []api.FeedDeparture{}, 0)
	isList(t, loads, e, 0)
	rest, e := feed.Without(n, []int{})
	if e != api.OK || len(rest.Stations) != 1 || len(rest.Sections) != 1 || len(rest.Trains) != 0 {
		t.Error(rest, e)
	}
}

// R2: nothing panics, whatever the arguments are; R1: beside an error all is zero.
func TestNothingPanics(t *testing.T) {
	r := rand.New(rand.NewSource(1))
	number := func() int {
		return one(r, -1, 0, 0, 0, 1, 1, 2, 3, 5, 13, 500, 1000, 1012, 1013, 20000, 100000, math.MinInt, math.MaxInt)
	}
	all := functions()
	for range 3000 {
		a := right()
		limited(&a, number())
		for range r.Intn(3) {
			switch i := r.Intn(3); r.Intn(6) {
			case 0:
				a.n.Stations = a.n.Stations[:i]
			case 1:
				a.n.Sections = a.n.Sections[:i]
			case 2:
				a.n.Trains = a.n.Trains[:i]
			case 3:
				a.l = []api.FeedDeparture{{Train: one(r, "x", "z", ""), At: number()}}
			}
		}
		for i := range a.n.Sections {
			if r.Intn(8) == 0 {
				a.n.Sections[i] = api.FeedSection{Left: number(), Right: number(), Share: number(), Loss: number()}
			}
		}
		for i := range a.n.Trains {
			if r.Intn(8) == 0 {
				a.n.Trains[i].Earliest, a.n.Trains[i].Latest = number(), number()
				a.n.Trains[i].Steps = []api.FeedStep{{Section: number(), Power: number()}}
			}
		}
		a.x.At, a.section, a.station, a.tick = number(), number(), number(), number()
		a.ticks, a.w = api.Range{Lo: number(), Hi: number()}, window(number(), number(), number())
		a.out = []int{number(), number(), number()}[:r.Intn(4)]
		a.a, a.b = api.FeedBook{Fed: number(), Lost: number()}, api.FeedBook{Used: number(), Burned: number()}
		a.ladder = api.FeedLadder{Ohms: []int{number(), number(), 1}, Loads: []int{number(), number()}[:r.Intn(3)]}
		a.currents[r.Intn(3)] = api.Frac{Num: number(), Den: number()}
		for _, f := range all {
			if result, e := f.call(a); e != api.OK && !isZero(result) {
				t.Fatal(f.name, a, result, e)
			}
		}
		feed.CheckNet(a.n)
		feed.FormatDeparture(a.x)
	}
}
