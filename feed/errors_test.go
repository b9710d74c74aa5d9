package feed_test

import (
	"math"
	"slices"
	"strconv"
	"testing"

	"guideway/api"
	"guideway/feed"
)

// plain is the net of the functions' arguments: d feeds nothing.
func plain() api.FeedNet {
	return api.FeedNet{
		Stations: []api.FeedStation{{Name: "a", Limit: 100000}, {Name: "b", Limit: 100000, Takes: true}, {Name: "c", Limit: 100000}, {Name: "d"}},
		Sections: []api.FeedSection{
			{Left: 0, Right: 1, Share: 600, Loss: 100}, {Left: api.FeedNone, Right: 1}, {Left: 2, Right: api.FeedNone, Share: 1000, Loss: 500},
		},
		Trains: []api.FeedTrain{
			{Name: "x", Latest: 2, Steps: []api.FeedStep{{Power: 2000}, {Section: 1, Power: -500}}},
			{Name: "y", Earliest: 1, Latest: 3, Steps: []api.FeedStep{{Power: 2500}, {Section: 2, Power: 10}}},
			{Name: "z", Latest: 7, Steps: []api.FeedStep{{Section: 2, Power: 1000}, {Power: -300}, {Section: 1, Power: 50}}},
		},
	}
}

// wrongNet is how a net is made wrong, and its error and mark then.
type wrongNet struct {
	name   string
	change func(*api.FeedNet)
	mark   api.FeedMark
	err    api.Errno
}

// badNames are no names.
func badNames() []string {
	return []string{"", "1", "-", "-a", "abcdefghijklm", "a b", "a_", "a.", "ä", "a\n", " a", "a\x00", "[", "`", "{", "@", "a/", "a:", "a[", "a`", "a{", "a@"}
}

// wrongNets are ways to make plain's net wrong, each list ahead of the next one.
func wrongNets() [][]wrongNet {
	wrong := func(name string, err api.Errno, change func(n *api.FeedNet)) wrongNet {
		return wrongNet{name, change, api.FeedMark{}, err}
	}
	lists := [][]wrongNet{
		{
			wrong("no substations", api.ErrShape, func(n *api.FeedNet) { n.Stations = nil }),
			wrong("no sections", api.ErrShape, func(n *api.FeedNet) { n.Sections = []api.FeedSection{} }),
			wrong("no substations, 11 sections", api.ErrShape, func(n *api.FeedNet) { n.Stations, n.Sections = nil, make([]api.FeedSection, 11) }),
			wrong("no sections, 7 substations", api.ErrShape, func(n *api.FeedNet) { n.Stations, n.Sections = make([]api.FeedStation, 7), nil }),
		},
		{
			wrong("7 substations", api.ErrLarge, func(n *api.FeedNet) { n.Stations = append(largest().Stations, api.FeedStation{Name: "g"}) }),
			wrong("7 substations without names", api.ErrLarge, func(n *api.FeedNet) { n.Stations = make([]api.FeedStation, 7) }),
			wrong("11 sections", api.ErrLarge, func(n *api.FeedNet) { n.Sections = slices.Repeat(n.Sections, 4)[:11] }),
			wrong("7 trains", api.ErrLarge, func(n *api.FeedNet) { n.Trains = append(largest().Trains, train("y", 0, 0, 1)) }),
			wrong("7 trains without names", api.ErrLarge, func(n *api.FeedNet) { n.Trains = make([]api.FeedTrain, 7) }),
		},
	}
	for i := range 4 {
		lists = append(lists, wrongStations(i)...)
	}
	for i := range 3 {
		lists = append(lists, wrongSections(i)...)
	}
	for i := range 3 {
		lists = append(lists, wrongTrains(i)...)
	}
	return lists
}

// wrongNames are ways to make the name of an element wrong.
func wrongNames(list, i int, nameOf func(*api.FeedNet, int) *string) [][]wrongNet {
	mark := api.FeedMark{List: list, Number: i}
	var bad, earlier []wrongNet
	for _, name := range badNames() {
		bad = append(bad, wrongNet{"name " + name, func(n *api.FeedNet) { *nameOf(n, i) = name }, mark, api.ErrName})
	}
	for j := range i {
		earlier = append(earlier, wrongNet{"name of an earlier one", func(n *api.FeedNet) { *nameOf(n, i) = *nameOf(n, j) }, mark, api.ErrExists})
	}
	return [][]wrongNet{bad, earlier}
}

func wrongStations(i int) [][]wrongNet {
	lists := wrongNames(api.FeedStations, i, func(n *api.FeedNet, i int) *string { return &n.Stations[i].Name })
	var limits []wrongNet
	for _, limit := range outside(0, 100000) {
		limits = append(limits, wrongNet{"limit", func(n *api.FeedNet) { n.Stations[i].Limit = limit }, api.FeedMark{List: api.FeedStations, Number: i}, api.ErrRange})
	}
	return append(lists, limits)
}

func wrongSections(i int) [][]wrongNet {
	var lists [5][]wrongNet
	add := func(list int, name string, err api.Errno, change func(s *api.FeedSection)) {
		w := wrongNet{"section, " + name, func(n *api.FeedNet) { change(&n.Sections[i]) }, api.FeedMark{List: api.FeedSections, Number: i}, err}
		lists[list] = append(lists[list], w)
	}
	for _, end := range outside(-1, 3) {
		add(0, "left", api.ErrMissing, func(s *api.FeedSection) { s.Left = end })
		add(0, "right", api.ErrMissing, func(s *api.FeedSection) { s.Right = end })
		add(0, "both", api.ErrMissing, func(s *api.FeedSection) { s.Left, s.Right = end, end })
	}
	add(1, "open", api.ErrOpen, func(s *api.FeedSection) { s.Left, s.Right = -1, -1 })
	for end := range 4 {
		add(2, "double", api.ErrDouble, func(s *api.FeedSection) { s.Left, s.Right = end, end })
	}
	for _, share := range outside(0, 1000) {
		add(3, "share", api.ErrRange, func(s *api.FeedSection) { s.Share = share })
	}
	for _, loss := range outside(0, 500) {
		add(3, "loss", api.ErrRange, func(s *api.FeedSection) { s.Loss = loss })
	}
	for end := range 4 {
		for _, share := range []int{1, 500, 999} {
			add(4, "left alone", api.ErrForm, func(s *api.FeedSection) { s.Left, s.Right, s.Share = end, -1, share })
			add(4, "right alone", api.ErrForm, func(s *api.FeedSection) { s.Left, s.Right, s.Share = -1, end, share })
		}
		add(4, "left feeds nothing", api.ErrForm, func(s *api.FeedSection) { s.Left, s.Right, s.Share = end, -1, 0 })
		add(4, "right feeds nothing", api.ErrForm, func(s *api.FeedSection) { s.Left, s.Right, s.Share = -1, end, 1000 })
	}
	return lists[:]
}

func wrongTrains(i int) [][]wrongNet {
	lists := wrongNames(api.FeedTrains, i, func(n *api.FeedNet, i int) *string { return &n.Trains[i].Name })
	wrong := func(name string, err api.Errno, change func(t *api.FeedTrain)) wrongNet {
		return wrongNet{"train, " + name, func(n *api.FeedNet) { change(&n.Trains[i]) }, api.FeedMark{List: api.FeedTrains, Number: i}, err}
	}
	ends := func(earliest, latest int) func(t *api.FeedTrain) {
		return func(t *api.FeedTrain) { t.Earliest, t.Latest = earliest, latest }
	}
	steps := func(steps ...api.FeedStep) func(t *api.FeedTrain) {
		return func(t *api.FeedTrain) { t.Steps = steps }
	}
	var ranges []wrongNet
	for _, tick := range outside(0, 1000) {
		ranges = append(ranges, wrong("earliest", api.ErrRange, ends(tick, 3)), wrong("latest", api.ErrRange, ends(0, tick)), wrong("both", api.ErrRange, ends(tick, tick)))
	}
	lists = append(lists, ranges,
		[]wrongNet{wrong("order", api.ErrOrder, ends(4, 3)), wrong("order at the ends", api.ErrOrder, ends(1000, 0))},
		[]wrongNet{wrong("no steps", api.ErrShape, steps())},
		[]wrongNet{
			wrong("13 steps", api.ErrLarge, steps(make([]api.FeedStep, 13)...)),
			wrong("13 wrong steps", api.ErrLarge, steps(slices.Repeat([]api.FeedStep{{Section: 9}}, 13)...)),
		})
	var first, last []wrongNet
	for _, section := range outside(0, 2) {
		first = append(first, wrong("section", api.ErrMissing, steps(api.FeedStep{Section: section, Power: 20001})),
			wrong("section ahead of a power", api.ErrMissing, steps(api.FeedStep{Section: section}, api.FeedStep{Power: 20001})))
		last = append(last, wrong("last section", api.ErrMissing, steps(append(make([]api.FeedStep, 11), api.FeedStep{Section: section})...)))
	}
	for _, power := range outside(-20000, 20000) {
		first = append(first, wrong("power", api.ErrRange, steps(api.FeedStep{Power: power})),
			wrong("power ahead of a section", api.ErrRange, steps(api.FeedStep{Power: power}, api.FeedStep{Section: 3})))
		last = append(last, wrong("last power", api.ErrRange, steps(append(make([]api.FeedStep, 11), api.FeedStep{Power: power})...)))
	}
	return append(lists, first, last)
}

// P7.1: each error of a net, its mark, and the order of errors.
func TestCheckNet(t *testing.T) {
	alike := plain() // names of several lists may be the same
	alike.Trains[0].Name = "a"
	empty := plain()
	empty.Trains = nil
	ends := plain()
	ends.Stations[0], ends.Stations[3].Limit = api.FeedStation{Name: "Z-0-9-azAZ--"}, 0
	ends.Sections[0] = api.FeedSection{Left: 3, Right: 0, Share: 1000, Loss: 500}
	ends.Trains[0].Earliest, ends.Trains[0].Latest, ends.Trains[1].Earliest, ends.Trains[1].Latest = 1000, 1000, 0, 0
	ends.Trains[0].Steps = []api.FeedStep{{Section: 2, Power: -20000}, {Power: 20000}}
	for _, n := range []api.FeedNet{example(0), example(100000), plain(), largest(), alike, empty, ends} {
		if m, e := feed.CheckNet(n); m != (api.FeedMark{}) || e != api.OK {
			t.Error(n, m, e)
		}
	}
	lists := wrongNets()
	for i, list := range lists {
		for _, first := range list {
			n := plain()
			first.change(&n)
			if m, e := feed.CheckNet(n); m != first.mark || e != first.err {
				t.Error(first, m, e)
			}
			for _, second := range slices.Concat(lists[i+1:]...) {
				n := plain()
				second.change(&n)
				first.change(&n)
				if m, e := feed.CheckNet(n); m != first.mark || e != first.err {
					t.Error(first, "ahead of", second, m, e)
				}
			}
		}
	}
}

// arguments are those of all functions.
type arguments struct {
	n                      api.FeedNet
	l                      []api.FeedDeparture
	x                      api.FeedDeparture
	section, station, tick int
	ticks                  api.Range
	w                      api.FeedWindow
	out                    []int
	a, b                   api.FeedBook
	ladder                 api.FeedLadder
	currents               []api.Frac
}

// right are arguments that all functions accept which do not ask whether something is exceeded.
func right() arguments {
	return arguments{
		n: plain(), l: []api.FeedDeparture{{Train: "x", At: 1}, {Train: "y", At: 1}}, x: api.FeedDeparture{Train: "z", At: 3},
		section: 1, station: 1, tick: 2, ticks: api.Range{Lo: 1, Hi: 3}, w: api.FeedWindow{Station: 2, Ticks: api.Range{Hi: 10}}, out: []int{0, 3},
		a: api.FeedBook{Fed: 1, Used: 2, Braked: 3, Lost: 4, Back: 5, Burned: 6}, b: api.FeedBook{Fed: 7, Used: 8, Braked: 9, Lost: 10, Back: 11, Burned: 12},
		ladder:   api.FeedLadder{Ohms: []int{1, 2, 3}, Loads: []int{6, 12}},
		currents: []api.Frac{{Num: 11, Den: 1}, {Num: 5, Den: 1}, {Num: -7, Den: 1}},
	}
}

// fault makes arguments wrong.
type fault struct {
	name   string
	change func(*arguments)
	want   api.Errno
}

// function is a function, the limits with which it accepts its arguments, and the faults that it refuses: those of the first
// list ahead of those of the next one.
type function struct {
	name   string
	limit  int
	call   func(arguments) (any, api.Errno)
	faults [][]fault
}

// right are arguments that a function accepts.
func (f function) right() arguments {
	a := right()
	limited(&a, f.limit)
	return a
}

// limited gives all substations a limit.
func limited(a *arguments, limit int) {
	for i := range a.n.Stations {
		a.n.Stations[i].Limit = limit
	}
}

func functions() []function {
	const little, much = 10, 100000
	nets := netFaults()
	both := slices.Concat(nets, departureFaults())
	stations := numberFaults("substation", 3, func(a *arguments, i int) { a.station = i })
	sections := numberFaults("section", 2, func(a *arguments, i int) { a.section = i })
	windows := slices.Concat(
		numberFaults("substation of the window", 3, func(a *arguments, i int) { a.w.Station = i }),
		rangeFaults("ticks of the window", func(a *arguments) *api.Range { return &a.w.Ticks }))
	ticks := rangeFaults("ticks", func(a *arguments) *api.Range { return &a.ticks })
	enough := [][]fault{{{"enough", func(a *arguments) { limited(a, much) }, api.ErrNone}}}
	return []function{
		{"CheckDepartures", little, func(a arguments) (any, api.Errno) { _, e := feed.CheckDepartures(a.n, a.l); return nil, e }, both},
		{"PowerAt", little, func(a arguments) (any, api.Errno) { x, e := feed.PowerAt(a.n, a.l, a.section, a.tick); return x, e }, slices.Concat(both, sections, tickFaults())},
		{"LoadsAt", little, func(a arguments) (any, api.Errno) { x, e := feed.LoadsAt(a.n, a.l, a.tick); return x, e }, slices.Concat(both, tickFaults())},
		{"PeakOf", little, func(a arguments) (any, api.Errno) { x, e := feed.PeakOf(a.n, a.l, a.station); return x, e }, slices.Concat(both, stations)},
		{"FirstOver", little, func(a arguments) (any, api.Errno) { x, e := feed.FirstOver(a.n, a.l); return x, e }, slices.Concat(both, enough)},
		{"Exceeded", little, func(a arguments) (any, api.Errno) { x, e := feed.Exceeded(a.n, a.l); return x, e }, slices.Concat(both, enough)},
		{"LeastOver", little, func(a arguments) (any, api.Errno) { x, e := feed.LeastOver(a.n, a.l); return x, e }, slices.Concat(both, enough)},
		{"Accept", much, func(a arguments) (any, api.Errno) { x, e := feed.Accept(a.n, a.l, a.x); return x, e }, slices.Concat(both, acceptFaults())},
		{"BestPlan", much, func(a arguments) (any, api.Errno) {
			l, delay, e := feed.BestPlan(a.n)
			if delay != 0 {
				return delay, e
			}
			return l, e
		}, slices.Concat(nets, choiceFaults(), [][]fault{{{"too little", func(a *arguments) { limited(a, little) }, api.ErrNone}}})},
		{"CheckWindow", little, func(a arguments) (any, api.Errno) { x, e := feed.CheckWindow(a.n, a.w); return x, e }, slices.Concat(nets, windows,
			[][]fault{{
				{"enough", func(a *arguments) { limited(a, much) }, api.ErrProof},
				{"a window of nothing", func(a *arguments) { a.w = api.FeedWindow{Ticks: api.Range{Lo: 500, Hi: 1012}} }, api.ErrProof},
			}})},
		{"FirstWindow", little, func(a arguments) (any, api.Errno) { x, e := feed.FirstWindow(a.n); return x, e }, slices.Concat(nets, [][]fault{slices.Concat(slices.Concat(choiceFaults()...), lateFaults())}, enough)},
		{"Without", little, func(a arguments) (any, api.Errno) { x, e := feed.Without(a.n, a.out); return x, e }, slices.Concat(nets, outFaults())},
		{"FirstWeak", little, func(a arguments) (any, api.Errno) { x, e := feed.FirstWeak(a.n, a.l); return x, e }, slices.Concat(both, strongFaults())},
		{"BookOf", little, func(a arguments) (any, api.Errno) { x, e := feed.BookOf(a.n, a.l, a.ticks); return x, e }, slices.Concat(both, ticks)},
		{"Added", little, func(a arguments) (any, api.Errno) { x, e := feed.Added(a.a, a.b); return x, e }, bookFaults()},
		{"LadderOf", little, func(a arguments) (any, api.Errno) { x, e := feed.LadderOf(a.ladder); return x, e }, ladderFaults()},
		{"CheckLadder", little, func(a arguments) (any, api.Errno) { return nil, feed.CheckLadder(a.ladder, a.currents) }, slices.Concat(ladderFaults(), currentFaults())},
	}
}

func netFaults() [][]fault {
	var list []fault
	for _, w := range slices.Concat(wrongNets()...) {
		list = append(list, fault{"net, " + w.name, func(a *arguments) {
			a.n = plain()
			w.change(&a.n)
		}, w.err})
	}
	return [][]fault{list}
}

// departureFaults are the errors of departures, each list ahead of the next one.
func departureFaults() [][]fault {
	lists := [][]fault{{
		{"7 departures", func(a *arguments) { a.l = make([]api.FeedDeparture, 7) }, api.ErrLarge},
		{"8 departures of one train", func(a *arguments) { a.l = slices.Repeat(a.l[:1], 8) }, api.ErrLarge},
	}}
	for i := range 2 {
		departure := func(name string, err api.Errno, train string, tick int) fault {
			return fault{"departure, " + name, func(a *arguments) { a.l[i] = api.FeedDeparture{Train: train, At: tick} }, err}
		}
		var list []fault
		for _, name := range []string{"", "q", "X", "x ", "xx", "a"} {
			list = append(list, departure("train", api.ErrMissing, name, 1), departure("train and tick", api.ErrMissing, name, -1))
		}
		for _, tick := range outside(0, 1000) {
			list = append(list, departure("tick", api.ErrRange, plain().Trains[i].Name, tick))
			if i > 0 {
				list = append(list, departure("double, and tick", api.ErrDouble, "x", tick))
			}
		}
		if i > 0 {
			list = append(list, departure("double", api.ErrDouble, "x", 0), departure("double alike", api.ErrDouble, "x", 1))
		}
		lists = append(lists, list)
	}
	return lists
}

func numberFaults(name string, most int, set func(a *arguments, i int)) [][]fault {
	var list []fault
	for _, i := range outside(0, most) {
		list = append(list, fault{name + " " + strconv.Itoa(i), func(a *arguments) { set(a, i) }, api.ErrMissing})
	}
	return [][]fault{list}
}

func tickFaults() [][]fault {
	var list []fault
	for _, tick := range outside(0, 1012) {
		list = append(list, fault{"tick " + strconv.Itoa(tick), func(a *arguments) { a.tick = tick }, api.ErrRange})
	}
	return [][]fault{list}
}

func rangeFaults(name string, of func(a *arguments) *api.Range) [][]fault {
	set := func(err api.Errno, lo, hi int) fault {
		return fault{name, func(a *arguments) { *of(a) = api.Range{Lo: lo, Hi: hi} }, err}
	}
	var list []fault
	for _, tick := range outside(0, 1012) {
		list = append(list, set(api.ErrRange, tick, 5), set(api.ErrRange, 5, tick), set(api.ErrRange, tick, tick))
	}
	return [][]fault{append(list, set(api.ErrRange, 1013, 1012), set(api.ErrRange, 0, -1)), {set(api.ErrOrder, 6, 5), set(api.ErrOrder, 1012, 0)}}
}

// acceptFaults are the errors of departures with one more, behind those of the others.
func acceptFaults() [][]fault {
	next := func(name string, err api.Errno, train string, tick int) fault {
		return fault{"one more, " + name, func(a *arguments) { a.x = api.FeedDeparture{Train: train, At: tick} }, err}
	}
	six := func(a *arguments) {
		a.n.Trains = append(plain().Trains, train("u", 0, 0, 1), train("v", 0, 0, 1), train("w", 0, 0, 1))
		a.l = at(a.n, 0, 0, 0, 0, 0, 0)
	}
	large := []fault{{"one more than 6", six, api.ErrLarge}, {"a missing one more than 6", func(a *arguments) {
		six(a)
		a.x.Train = "q"
	}, api.ErrLarge}}
	missing := []fault{next("train", api.ErrMissing, "q", 0), next("no name", api.ErrMissing, "", 0), next("train and tick", api.ErrMissing, "q", -1)}
	var double, ranges []fault
	for _, name := range []string{"x", "y"} {
		double = append(double, next("double", api.ErrDouble, name, 1), next("double and tick", api.ErrDouble, name, -1), next("double and late", api.ErrDouble, name, 9))
	}
	for _, tick := range outside(0, 1000) {
		ranges = append(ranges, next("tick", api.ErrRange, "z", tick))
	}
	late := []fault{next("late", api.ErrLate, "z", 8), next("much too late", api.ErrLate, "z", 1000), {"early", func(a *arguments) {
		a.n.Trains[2].Earliest = 1
		a.x = api.FeedDeparture{Train: "z"}
	}, api.ErrLate}}
	return [][]fault{large, missing, double, ranges, late, {{"refused", func(a *arguments) { limited(a, 10) }, api.ErrRefused}}}
}

// choiceFaults are nets of which no plan is looked for.
func choiceFaults() [][]fault {
	list := []fault{{"5 trains", func(a *arguments) { a.n.Trains = append(plain().Trains, train("v", 0, 0, 1), train("w", 0, 0, 1)) }, api.ErrLarge}}
	for i := range 3 {
		list = append(list, fault{"9 departures to choose from", func(a *arguments) { a.n.Trains[i].Earliest, a.n.Trains[i].Latest = 5, 13 }, api.ErrLarge},
			fault{"all departures to choose from", func(a *arguments) { a.n.Trains[i].Earliest, a.n.Trains[i].Latest = 0, 1000 }, api.ErrLarge})
	}
	return [][]fault{list}
}

// lateFaults are nets of which no window is looked for.
func lateFaults() []fault {
	var list []fault
	for i := range 3 {
		list = append(list, fault{"late train", func(a *arguments) { a.n.Trains[i].Earliest, a.n.Trains[i].Latest = 49, 49 }, api.ErrLarge},
			fault{"very late train", func(a *arguments) { a.n.Trains[i].Earliest, a.n.Trains[i].Latest = 1000, 1000 }, api.ErrLarge})
	}
	return list
}

func outFaults() [][]fault {
	out := func(name string, err api.Errno, out ...int) fault {
		return fault{"out, " + name, func(a *arguments) { a.out = out }, err}
	}
	var list []fault
	for _, i := range outside(0, 3) {
		list = append(list, out("missing", api.ErrMissing, i), out("missing ahead of order", api.ErrMissing, i, 3, 0), out("missing behind", api.ErrMissing, 0, i),
			out("missing last", api.ErrMissing, 1, 2, i), out("order ahead of missing", api.ErrOrder, 1, 1, i))
	}
	list = append(list, out("order", api.ErrOrder, 1, 0), out("twice", api.ErrOrder, 0, 0), out("order behind", api.ErrOrder, 0, 3, 2), out("order of more", api.ErrOrder, 0, 2, 1, 3))
	return [][]fault{list, {out("b", api.ErrOpen, 1), out("c", api.ErrOpen, 2), out("a and b", api.ErrOpen, 0, 1), out("all", api.ErrOpen, 0, 1, 2, 3)}}
}

// strongFaults are nets without a substation that is weak.
func strongFaults() [][]fault {
	return [][]fault{{{"strong", func(a *arguments) {
		limited(a, 100000)
		a.n.Sections = []api.FeedSection{{Left: 0, Right: 1}, {Left: 2, Right: 1}, {Left: 3, Right: 0}}
	}, api.ErrNone}}}
}

func bookFaults() [][]fault {
	of := []func(b *api.FeedBook) *int{
		func(b *api.FeedBook) *int { return &b.Fed }, func(b *api.FeedBook) *int { return &b.Used }, func(b *api.FeedBook) *int { return &b.Braked },
		func(b *api.FeedBook) *int { return &b.Lost }, func(b *api.FeedBook) *int { return &b.Back }, func(b *api.FeedBook) *int { return &b.Burned },
	}
	const most = 1000000000000000
	var ranges, sums []fault
	for i, number := range of {
		for _, x := range outside(0, most) {
			ranges = append(ranges, fault{"a number of a", func(a *arguments) { *number(&a.a) = x }, api.ErrRange},
				fault{"a number of b", func(a *arguments) { *number(&a.b) = x }, api.ErrRange})
		}
		sums = append(sums, fault{"sum " + strconv.Itoa(i), func(a *arguments) { *number(&a.a), *number(&a.b) = most, 1 }, api.ErrLarge},
			fault{"great sum " + strconv.Itoa(i), func(a *arguments) { *number(&a.a), *number(&a.b) = most, most }, api.ErrLarge})
	}
	return [][]fault{ranges, sums}
}

// ladderFaults are the errors of ladders, each list ahead of the next one.
func ladderFaults() [][]fault {
	ladder := func(name string, err api.Errno, ohms, loads []int) fault {
		return fault{"ladder, " + name, func(a *arguments) { a.ladder = api.FeedLadder{Ohms: ohms, Loads: loads} }, err}
	}
	lists := [][]fault{{
		ladder("nothing", api.ErrShape, nil, nil), ladder("no loads", api.ErrShape, []int{1}, []int{}), ladder("no pieces", api.ErrShape, nil, []int{1}),
		ladder("as many", api.ErrShape, []int{1, 2}, []int{1, 2}), ladder("two more", api.ErrShape, []int{1, 2, 3}, []int{1}),
		ladder("9 loads, as many", api.ErrShape, make([]int, 9), make([]int, 9)), ladder("as many, wrong", api.ErrShape, []int{0}, []int{20001}),
	}, {
		ladder("9 loads", api.ErrLarge, slices.Repeat([]int{1}, 10), slices.Repeat([]int{1}, 9)), ladder("9 wrong loads", api.ErrLarge, make([]int, 10), slices.Repeat([]int{20001}, 9)),
	}, nil}
	for i := range 3 {
		for _, ohms := range outside(1, 500) {
			lists[2] = append(lists[2], fault{"ohms", func(a *arguments) { a.ladder.Ohms[i] = ohms }, api.ErrRange})
		}
	}
	for i := range 2 {
		for _, load := range outside(-20000, 20000) {
			lists[2] = append(lists[2], fault{"load", func(a *arguments) { a.ladder.Loads[i] = load }, api.ErrRange})
		}
	}
	return lists
}

// currentFaults are currents that are not those of the ladder.
func currentFaults() [][]fault {
	currents := func(name string, err api.Errno, list ...api.Frac) fault {
		return fault{"currents, " + name, func(a *arguments) { a.currents = slices.Clone(list) }, err}
	}
	right := right().currents
	lists := [][]fault{{
		currents("none", api.ErrShape), currents("less", api.ErrShape, right[:2]...), currents("more", api.ErrShape, append(slices.Clone(right), api.Frac{Den: 1})...),
		currents("less, wrong ones", api.ErrShape, api.Frac{}), currents("more, wrong ones", api.ErrShape, make([]api.Frac, 4)...),
	}}
	for i := range 3 {
		set := func(err api.Errno, num, den int) fault {
			return fault{"current " + strconv.Itoa(i), func(a *arguments) { a.currents[i] = api.Frac{Num: num, Den: den} }, err}
		}
		var list []fault
		for _, x := range []api.Frac{
			{}, {Num: 1}, {Num: 11, Den: -1}, {Num: -5, Den: -1}, {Num: 22, Den: 2}, {Num: -14, Den: 2}, {Den: 2}, {Num: 6, Den: 4}, {Num: -6, Den: 9},
			{Num: math.MinInt}, {Num: math.MinInt, Den: math.MinInt}, {Num: math.MinInt, Den: 2}, {Num: math.MaxInt, Den: math.MaxInt}, {Num: math.MaxInt, Den: math.MinInt},
			{Num: 1, Den: math.MinInt}, {Num: math.MinInt, Den: -1}, {Num: 2000000000, Den: 2}, {Num: 3, Den: 3000000000},
		} {
			list = append(list, set(api.ErrForm, x.Num, x.Den))
		}
		for _, x := range []api.Frac{
			{Num: 1000000001, Den: 1}, {Num: -1000000001, Den: 1}, {Num: 1, Den: 1000000001}, {Num: math.MinInt, Den: 1}, {Num: math.MinInt, Den: 3},
			{Num: math.MaxInt, Den: 1}, {Num: 1, Den: math.MaxInt}, {Num: -1, Den: math.MaxInt}, {Num: math.MinInt, Den: math.MaxInt},
		} {
			list = append(list, set(api.ErrRange, x.Num, x.Den))
		}
		lists = append(lists, list)
	}
	return append(lists, []fault{
		currents("zero", api.ErrProof, api.Frac{Den: 1}, api.Frac{Den: 1}, api.Frac{Den: 1}), currents("one more each", api.ErrProof, api.Frac{Num: 12, Den: 1}, api.Frac{Num: 6, Den: 1}, api.Frac{Num: -6, Den: 1}),
		currents("back", api.ErrProof, right[2], right[1], right[0]), currents("the first", api.ErrProof, api.Frac{Num: 11, Den: 2}, right[1], right[2]),
		currents("the last", api.ErrProof, right[0], right[1], api.Frac{Num: 7, Den: 1}), currents("the limits", api.ErrProof, api.Frac{Num: 1000000000, Den: 1}, api.Frac{Num: -1000000000, Den: 1}, api.Frac{Num: 1, Den: 1000000000}),
		{"another load", func(a *arguments) { a.ladder.Loads = []int{6, 13} }, api.ErrProof},
		{"another piece", func(a *arguments) { a.ladder.Ohms = []int{1, 2, 4} }, api.ErrProof},
	})
}

// P7.1 to P7.7, R1: each error of each function; the one that is listed first counts, whatever is wrong besides.
func TestErrors(t *testing.T) {
	for _, f := range functions() {
		if _, e := f.call(f.right()); e != api.OK {
			t.Error(f.name, e)
		}
		for i, list := range f.faults {
			for _, first := range list {
				a := f.right()
				first.change(&a)
				result, e := f.call(a)
				refused(t, f.name+": "+first.name, result, e, first.want)
				for _, second := range slices.Concat(f.faults[i+1:]...) {
					b := f.right()
					second.change(&b)
					first.change(&b)
					result, e := f.call(b)
					refused(t, f.name+": "+first.name+" ahead of "+second.name, result, e, first.want)
				}
			}
		}
	}
}

// P7.1: the number of the departure that has the error.
func TestCheckDepartures(t *testing.T) {
	n := largest()
	right := at(n, 0, 1000, 0, 1000, 5, 7) // Earliest and Latest are not looked at
	for count := range 7 {
		if i, e := feed.CheckDepartures(n, right[:count]); i != 0 || e != api.OK {
			t.Error(count, i, e)
		}
	}
	for number := range 6 {
		for _, other := range []struct {
			d   api.FeedDeparture
			err api.Errno
		}{
			{api.FeedDeparture{Train: "q"}, api.ErrMissing}, {api.FeedDeparture{Train: "q", At: -1}, api.ErrMissing},
			{api.FeedDeparture{Train: right[0].Train, At: 1001}, api.ErrDouble}, {api.FeedDeparture{Train: right[max(number, 1)-1].Train}, api.ErrDouble},
			{api.FeedDeparture{Train: right[number].Train, At: 1001}, api.ErrRange}, {api.FeedDeparture{Train: right[number].Train, At: -1}, api.ErrRange},
		} {
			if number == 0 && other.err == api.ErrDouble {
				continue
			}
			l := slices.Clone(right)
			l[5] = api.FeedDeparture{}
			l[number] = other.d
			if i, e := feed.CheckDepartures(n, l); i != number || e != other.err {
				t.Error(l, i, e)
			}
		}
	}
	if i, e := feed.CheckDepartures(n, append(right, right[0])); i != 0 || e != api.ErrLarge {
		t.Error("7", i, e)
	}
	n.Trains[3].Name = ""
	if i, e := feed.CheckDepartures(n, []api.FeedDeparture{right[0], right[0]}); i != 0 || e != api.ErrName {
		t.Error("the net", i, e)
	}
}
