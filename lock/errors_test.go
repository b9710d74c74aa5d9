package lock_test

import (
	"math"
	"slices"
	"strconv"
	"testing"

	"guideway/api"
	"guideway/lock"
)

// plain is the plant of the functions' arguments: the example with one section and one switch more.
func plain() api.LockPlant {
	p := example()
	p.Sections = append(p.Sections, "d")
	p.Switches = append(p.Switches, api.LockSwitch{Name: "v", Section: 2})
	p.Routes[0].Needs, p.Routes[1].Needs, p.Routes[2].Needs = []int{0, -1}, []int{1, 0}, []int{-1, 0}
	return p
}

// wrongPlant is how a plant is made wrong, and its error and mark then.
type wrongPlant struct {
	name   string
	change func(*api.LockPlant)
	mark   api.LockMark
	err    api.Errno
}

// badNames are no names.
func badNames() []string {
	return []string{"", "1", "-", "-a", "abcdefghijklm", "a b", "a_", "a.", "ä", "a\n", " a", "a\x00", "[", "`", "{", "@", "a/", "a:", "a[", "a`", "a{", "a@"}
}

// wrongPlants are ways to make plain's plant wrong, each list ahead of the next one.
func wrongPlants() [][]wrongPlant {
	lists := [][]wrongPlant{
		{
			{"no sections", func(p *api.LockPlant) { p.Sections = nil }, api.LockMark{}, api.ErrShape},
			{"no trains", func(p *api.LockPlant) { p.Trains = []string{} }, api.LockMark{}, api.ErrShape},
			{"no trains, 9 sections", func(p *api.LockPlant) { p.Sections, p.Trains = names('a', 9), nil }, api.LockMark{}, api.ErrShape},
			{"no sections, 4 trains", func(p *api.LockPlant) { p.Sections, p.Trains = nil, names('a', 4) }, api.LockMark{}, api.ErrShape},
		},
		{
			{"9 sections", func(p *api.LockPlant) { p.Sections = names('a', 9) }, api.LockMark{}, api.ErrLarge},
			{"9 sections without names", func(p *api.LockPlant) { p.Sections = make([]string, 9) }, api.LockMark{}, api.ErrLarge},
			{"4 trains", func(p *api.LockPlant) { p.Trains = names('a', 4) }, api.LockMark{}, api.ErrLarge},
			{"5 switches", func(p *api.LockPlant) { p.Switches = make([]api.LockSwitch, 5) }, api.LockMark{}, api.ErrLarge},
			{"11 routes", func(p *api.LockPlant) { p.Routes = make([]api.LockRoute, 11) }, api.LockMark{}, api.ErrLarge},
		},
	}
	for i := range 4 {
		lists = append(lists, wrongNames(api.LockSections, i, func(p *api.LockPlant, i int) *string { return &p.Sections[i] })...)
	}
	for i := range 2 {
		lists = append(lists, wrongNames(api.LockTrains, i, func(p *api.LockPlant, i int) *string { return &p.Trains[i] })...)
	}
	for i := range 2 {
		lists = append(lists, wrongSwitches(i)...)
	}
	for i := range 3 {
		lists = append(lists, wrongRoutes(i)...)
	}
	return lists
}

// wrongNames are ways to make the name of an element wrong.
func wrongNames(list, i int, nameOf func(*api.LockPlant, int) *string) [][]wrongPlant {
	mark := api.LockMark{List: list, Number: i}
	var bad, earlier []wrongPlant
	for _, name := range badNames() {
		bad = append(bad, wrongPlant{"name " + name, func(p *api.LockPlant) { *nameOf(p, i) = name }, mark, api.ErrName})
	}
	for j := range i {
		earlier = append(earlier, wrongPlant{"name of an earlier one", func(p *api.LockPlant) { *nameOf(p, i) = *nameOf(p, j) }, mark, api.ErrExists})
	}
	return [][]wrongPlant{bad, earlier}
}

func wrongSwitches(i int) [][]wrongPlant {
	mark := api.LockMark{List: api.LockSwitches, Number: i}
	lists := wrongNames(api.LockSwitches, i, func(p *api.LockPlant, i int) *string { return &p.Switches[i].Name })
	var missing, double []wrongPlant
	for _, section := range outside(0, 3) {
		missing = append(missing, wrongPlant{"section", func(p *api.LockPlant) { p.Switches[i].Section = section }, mark, api.ErrMissing})
	}
	for j := range i {
		double = append(double, wrongPlant{"section of an earlier one", func(p *api.LockPlant) { p.Switches[i].Section = p.Switches[j].Section }, mark, api.ErrDouble})
	}
	return append(lists, missing, double)
}

func wrongRoutes(i int) [][]wrongPlant {
	mark := api.LockMark{List: api.LockRoutes, Number: i}
	lists := wrongNames(api.LockRoutes, i, func(p *api.LockPlant, i int) *string { return &p.Routes[i].Name })
	sections := func(name string, err api.Errno, list ...int) wrongPlant {
		return wrongPlant{"sections, " + name, func(p *api.LockPlant) { p.Routes[i].Sections = list }, mark, err}
	}
	needs := func(name string, err api.Errno, change func(r *api.LockRoute)) wrongPlant {
		return wrongPlant{"needs, " + name, func(p *api.LockPlant) { change(&p.Routes[i]) }, mark, err}
	}
	lists = append(lists,
		[]wrongPlant{sections("none", api.ErrShape), sections("one", api.ErrShape, 0), sections("one that is not there", api.ErrShape, 4)},
		[]wrongPlant{sections("five", api.ErrLarge, 0, 1, 2, 3, 0), sections("five that are not there", api.ErrLarge, 4, 4, 4, 4, 4)})
	var one, other []wrongPlant
	for _, n := range outside(0, 3) {
		one = append(one, sections("first", api.ErrMissing, n, 0), sections("both", api.ErrMissing, n, n))
		other = append(other, sections("last", api.ErrMissing, 0, 1, 2, n), sections("ahead of a double one", api.ErrMissing, 0, n, 0))
	}
	other = append(other, sections("double", api.ErrDouble, 0, 0), sections("first double", api.ErrDouble, 3, 1, 3),
		sections("last double", api.ErrDouble, 0, 1, 2, 2), sections("double ahead of one that is not there", api.ErrDouble, 2, 2, 4))
	lists = append(lists, one, other, []wrongPlant{
		needs("none", api.ErrShape, func(r *api.LockRoute) { r.Needs = nil }),
		needs("less", api.ErrShape, func(r *api.LockRoute) { r.Needs = []int{r.Needs[0]} }),
		needs("more", api.ErrShape, func(r *api.LockRoute) { r.Needs = append(slices.Clone(r.Needs), -1) }),
		needs("less, wrong one", api.ErrShape, func(r *api.LockRoute) { r.Needs = []int{7} }),
	})
	for k := range 2 {
		lists = append(lists, wrongNeeds(i, k))
	}
	return lists
}

// wrongNeeds are ways to make the need of a switch wrong.
func wrongNeeds(i, k int) []wrongPlant {
	needed := plain().Routes[i].Needs[k] != -1
	var list []wrongPlant
	for _, need := range []int{-2, -1, 0, 1, 2, math.MinInt, math.MaxInt} {
		if isRight := need == -1 && !needed || (need == 0 || need == 1) && needed; !isRight {
			list = append(list, wrongPlant{"need " + strconv.Itoa(need), func(p *api.LockPlant) { p.Routes[i].Needs[k] = need },
				api.LockMark{List: api.LockRoutes, Number: i}, api.ErrRange})
		}
	}
	return list
}

// P6.1: each error of a plant, its mark, and the order of errors.
func TestCheckPlant(t *testing.T) {
	twelve := plain()
	twelve.Sections[0], twelve.Trains[0], twelve.Switches[0].Name, twelve.Routes[0].Name = "abcdefghij-9", "Z-0-9-azAZ--", "zyxwvutsrqpo", "A"
	alike := plain() // names of several lists may be the same
	alike.Trains, alike.Switches[0].Name, alike.Routes[0].Name = []string{"a", "b"}, "a", "a"
	for _, p := range []api.LockPlant{example(), plain(), only(), largest(), twelve, alike} {
		if m, e := lock.CheckPlant(p); m != (api.LockMark{}) || e != api.OK {
			t.Error(p, m, e)
		}
	}
	lists := wrongPlants()
	for i, list := range lists {
		for _, first := range list {
			p := copied(plain())
			first.change(&p)
			if m, e := lock.CheckPlant(p); m != first.mark || e != first.err {
				t.Error(first, m, e)
			}
			for _, second := range slices.Concat(lists[i+1:]...) {
				p := copied(plain())
				second.change(&p)
				first.change(&p)
				if m, e := lock.CheckPlant(p); m != first.mark || e != first.err {
					t.Error(first, "ahead of", second, m, e)
				}
			}
		}
	}
}

// P6.1: a route of a plant of one section has more sections than there are.
func TestCheckPlantOfOneSection(t *testing.T) {
	for _, r := range []api.LockRoute{route(nil, 0, 0), route(nil, 0, 1), route(nil, 1, 1)} {
		if m, e := lock.CheckPlant(plantOf(1, 1, nil, r)); m != (api.LockMark{List: api.LockRoutes}) || e != api.ErrLarge {
			t.Error(r, m, e)
		}
	}
}

// arguments are those of all functions.
type arguments struct {
	p              api.LockPlant
	x              api.LockState
	e              api.LockEvent
	l              []api.LockEvent
	section, train int
	to             [2]int
	counter        int
	one            api.LockTelegram
	three          [3]api.LockTelegram
}

// right are arguments that all functions accept: t is on a and has its route to c, u is on b.
func right() arguments {
	telegram := api.LockTelegram{3, 0, 0, 5, (4 + 2 + 3 + 24) % 251} // enter 0
	return arguments{
		p: plain(),
		x: api.LockState{Switches: []int{1, 0}, Trains: []api.LockTrain{{Chain: []int{0, 2}, Under: 1}, {Chain: []int{1}, Under: 1}}, Counter: 5},
		e: api.LockEvent{Kind: api.LockEnter}, section: 2, to: [2]int{0, 2}, counter: 5,
		one: telegram, three: [3]api.LockTelegram{telegram, telegram, telegram},
	}
}

// fault makes arguments wrong.
type fault struct {
	name   string
	change func(*arguments)
	want   api.Errno
}

// function is a function, and the faults that it refuses: those of the first list ahead of those of the next one.
type function struct {
	name   string
	call   func(arguments) (any, api.Errno)
	faults [][]fault
}

func functions() []function {
	plants, states, events := plantFaults(), stateFaults(), eventFaults()
	both := slices.Concat(plants, states)
	sections := numberFaults("section", 3, func(a *arguments, n int) { a.section = n })
	trains := numberFaults("train", 1, func(a *arguments, n int) { a.train = n })
	ends := slices.Concat(
		numberFaults("train of the way", 1, func(a *arguments, n int) { a.to[0] = n }),
		numberFaults("section of the way", 3, func(a *arguments, n int) { a.to[1] = n }))
	return []function{
		{"Conflicts", func(a arguments) (any, api.Errno) { l, e := lock.Conflicts(a.p); return l, e }, plants},
		{"RoutesFrom", func(a arguments) (any, api.Errno) { l, e := lock.RoutesFrom(a.p, a.section); return l, e }, slices.Concat(plants, sections)},
		{"Begin", func(a arguments) (any, api.Errno) { x, e := lock.Begin(a.p); return x, e }, plants},
		{"CheckState", func(a arguments) (any, api.Errno) { return nil, lock.CheckState(a.p, a.x) }, both},
		{"CheckEvent", func(a arguments) (any, api.Errno) { return nil, lock.CheckEvent(a.p, a.e) }, slices.Concat(plants, events)},
		{"Apply", func(a arguments) (any, api.Errno) { x, e := lock.Apply(a.p, a.x, a.e); return x, e }, slices.Concat(both, events, refusalFaults())},
		{"Replay", func(a arguments) (any, api.Errno) {
			x, n, e := lock.Replay(a.p, a.l)
			if n != 0 {
				return n, e
			}
			return x, e
		}, slices.Concat(plants, longFaults())},
		{"Possible", func(a arguments) (any, api.Errno) { l, e := lock.Possible(a.p, a.x); return l, e }, both},
		{"HolderOf", func(a arguments) (any, api.Errno) { n, e := lock.HolderOf(a.p, a.x, a.section); return n, e }, slices.Concat(both, sections, freeFaults())},
		{"Locked", func(a arguments) (any, api.Errno) { l, e := lock.Locked(a.p, a.x); return l, e }, both},
		{"EndOf", func(a arguments) (any, api.Errno) { n, e := lock.EndOf(a.p, a.x, a.train); return n, e }, slices.Concat(both, trains, offLineFaults())},
		{"Reached", func(a arguments) (any, api.Errno) { n, e := lock.Reached(a.p); return n, e }, slices.Concat(plants, manyFaults())},
		{"Way", func(a arguments) (any, api.Errno) { l, e := lock.Way(a.p, a.x, a.to); return l, e }, slices.Concat(both, ends)},
		{"TelegramOf", func(a arguments) (any, api.Errno) { x, e := lock.TelegramOf(a.e, a.counter); return x, e }, slices.Concat(kindFaults(), numbersFaults())},
		{"EventOf", func(a arguments) (any, api.Errno) {
			v, n, e := lock.EventOf(a.one)
			if n != 0 {
				return n, e
			}
			return v, e
		}, telegramFaults()},
		{"Vote", func(a arguments) (any, api.Errno) { x, e := lock.Vote(a.three); return x, e }, voteFaults()},
		{"Receive", func(a arguments) (any, api.Errno) { x, e := lock.Receive(a.p, a.x, a.three); return x, e }, slices.Concat(both, voteFaults(), orderFaults(), receivedFaults())},
	}
}

func plantFaults() [][]fault {
	var list []fault
	for _, w := range slices.Concat(wrongPlants()...) {
		list = append(list, fault{"plant, " + w.name, func(a *arguments) {
			a.p = plain()
			w.change(&a.p)
		}, w.err})
	}
	return [][]fault{list}
}

// stateFaults are the errors of states, each list ahead of the next one.
func stateFaults() [][]fault {
	state := func(name string, err api.Errno, change func(x *api.LockState)) fault {
		return fault{"state, " + name, func(a *arguments) { change(&a.x) }, err}
	}
	lists := [][]fault{
		{
			state("no switches", api.ErrShape, func(x *api.LockState) { x.Switches = nil }),
			state("one switch", api.ErrShape, func(x *api.LockState) { x.Switches = []int{1} }),
			state("three switches", api.ErrShape, func(x *api.LockState) { x.Switches = []int{1, 0, 2} }),
			state("no trains", api.ErrShape, func(x *api.LockState) { x.Trains = nil }),
			state("one train", api.ErrShape, func(x *api.LockState) { x.Trains = []api.LockTrain{{Under: 1}} }),
			state("three trains", api.ErrShape, func(x *api.LockState) { x.Trains = make([]api.LockTrain, 3) }),
			state("nothing", api.ErrShape, func(x *api.LockState) { *x = api.LockState{Counter: -1} }),
		},
		nil, nil, nil,
	}
	for _, n := range outside(0, 1) {
		lists[1] = append(lists[1],
			state("first switch", api.ErrRange, func(x *api.LockState) { x.Switches = []int{n, 0} }),
			state("second switch", api.ErrRange, func(x *api.LockState) { x.Switches = []int{1, n} }))
	}
	for _, n := range outside(0, 250) {
		lists[1] = append(lists[1], state("counter", api.ErrRange, func(x *api.LockState) { x.Counter = n }))
	}
	for i := range 2 {
		for _, under := range outside(1, 1) {
			lists[2+i] = append(lists[2+i], state("under", api.ErrForm, func(x *api.LockState) { x.Trains[i] = api.LockTrain{Chain: []int{3}, Under: under} }))
		}
		for _, under := range outside(0, 0) {
			lists[2+i] = append(lists[2+i], state("under nothing", api.ErrForm, func(x *api.LockState) { x.Trains[i] = api.LockTrain{Under: under} }))
		}
		chain := func(name string, err api.Errno, under int, chain ...int) fault {
			return state(name, err, func(x *api.LockState) { x.Trains[i] = api.LockTrain{Chain: chain, Under: under} })
		}
		lists[2+i] = append(lists[2+i],
			chain("under, sections that are not there", api.ErrForm, 3, 4, 4), chain("under 0", api.ErrForm, 0, 3, 3),
			chain("double", api.ErrBusy, 1, 3, 3), chain("open", api.ErrOpen, 1, 3, i), chain("open ahead of a double one", api.ErrOpen, 2, 3, i, 3))
		for _, n := range outside(0, 3) {
			lists[2+i] = append(lists[2+i], chain("first section", api.ErrMissing, 1, n), chain("second section", api.ErrMissing, 2, 3, n))
		}
	}
	for _, chain := range [][]int{{2}, {0}, {1, 2}, {1, 0}} { // 1 does not lead to 0 either
		lists[3] = append(lists[3], state("section of the first train", api.ErrBusy, func(x *api.LockState) { x.Trains[1] = api.LockTrain{Chain: chain, Under: 1} }))
	}
	return lists
}

func eventFaults() [][]fault {
	event := func(err api.Errno, kind, a, b int) fault {
		return fault{"event", func(x *arguments) { x.e = api.LockEvent{Kind: kind, A: a, B: b} }, err}
	}
	var list []fault
	for _, kind := range outside(0, 6) {
		list = append(list, event(api.ErrKind, kind, 0, 0), event(api.ErrKind, kind, -1, -1))
	}
	for _, n := range outside(0, 1) {
		for kind := range 7 {
			list = append(list, event(api.ErrMissing, kind, n, 0), event(api.ErrMissing, kind, n, -1), event(api.ErrMissing, kind, n, 9))
		}
		list = append(list, event(api.ErrRange, 2, 1, n))
	}
	for _, n := range outside(0, 3) {
		list = append(list, event(api.ErrMissing, 0, 1, n))
	}
	for _, n := range outside(0, 2) {
		list = append(list, event(api.ErrMissing, 1, 1, n))
	}
	for _, n := range outside(0, 0) {
		for kind := 3; kind <= 6; kind++ {
			list = append(list, event(api.ErrForm, kind, 1, n))
		}
	}
	return [][]fault{list}
}

// refusalFaults are events that are right, but not accepted.
func refusalFaults() [][]fault {
	event := func(err api.Errno, kind, a, b int) fault {
		return fault{"refused", func(x *arguments) { x.e = api.LockEvent{Kind: kind, A: a, B: b} }, err}
	}
	return [][]fault{{
		event(api.ErrState, 0, 0, 3), event(api.ErrOpen, 1, 0, 0), event(api.ErrBusy, 1, 1, 2), event(api.ErrBusy, 2, 0, 1),
		event(api.ErrBusy, 2, 1, 0), event(api.ErrNone, 3, 1, 0), event(api.ErrNone, 4, 0, 0), event(api.ErrNone, 5, 1, 0), event(api.ErrBusy, 6, 0, 0),
	}}
}

func longFaults() [][]fault {
	return [][]fault{{
		{"201 events", func(a *arguments) { a.l = slices.Repeat([]api.LockEvent{{Kind: api.LockTurn}}, 201) }, api.ErrLarge},
		{"201 events, wrong ones", func(a *arguments) { a.l = slices.Repeat([]api.LockEvent{{Kind: -1}}, 201) }, api.ErrLarge},
	}}
}

func numberFaults(name string, most int, set func(a *arguments, n int)) [][]fault {
	var list []fault
	for _, n := range outside(0, most) {
		list = append(list, fault{name, func(a *arguments) { set(a, n) }, api.ErrMissing})
	}
	return [][]fault{list}
}

func freeFaults() [][]fault {
	return [][]fault{{{"free section", func(a *arguments) { a.section = 3 }, api.ErrNone}}}
}

func offLineFaults() [][]fault {
	return [][]fault{{{"not on the line", func(a *arguments) { a.train, a.x.Trains[1] = 1, api.LockTrain{} }, api.ErrState}}}
}

func manyFaults() [][]fault {
	return [][]fault{{{"many states", func(a *arguments) { a.p = largest() }, api.ErrLarge}}}
}

func kindFaults() [][]fault {
	var list []fault
	for _, kind := range outside(0, 6) {
		list = append(list, fault{"kind", func(a *arguments) { a.e.Kind = kind }, api.ErrKind})
	}
	return [][]fault{list}
}

func numbersFaults() [][]fault {
	var list []fault
	for _, n := range outside(0, 250) {
		list = append(list,
			fault{"A", func(a *arguments) { a.e.A = n }, api.ErrRange},
			fault{"B", func(a *arguments) { a.e.B = n }, api.ErrRange},
			fault{"counter", func(a *arguments) { a.counter = n }, api.ErrRange})
	}
	return [][]fault{list}
}

func telegramFaults() [][]fault {
	var ranges, sums, kinds []fault
	for i := range 5 {
		for _, n := range outside(0, 250) {
			ranges = append(ranges, fault{"number", func(a *arguments) { a.one[i] = n }, api.ErrRange})
		}
		sums = append(sums, fault{"sum", func(a *arguments) {
			a.one = right().one
			a.one[i]++
		}, api.ErrSum})
	}
	ranges = append(ranges, fault{"all", func(a *arguments) { a.one = api.LockTelegram{-1, -1, -1, -1, -1} }, api.ErrRange})
	sums = append(sums,
		fault{"sum and kind", func(a *arguments) { a.one = api.LockTelegram{7, 0, 0, 0, 18} }, api.ErrSum},
		fault{"zeros", func(a *arguments) { a.one = api.LockTelegram{} }, api.ErrSum})
	for _, kind := range []int{7, 8, 250} {
		kinds = append(kinds, fault{"kind", func(a *arguments) { a.one = api.LockTelegram{kind, 0, 0, 0, (kind + 10) % 251} }, api.ErrKind})
	}
	return [][]fault{ranges, sums, kinds}
}

func voteFaults() [][]fault {
	other, third := api.LockTelegram{6, 0, 0, 5, 36}, api.LockTelegram{5, 0, 0, 5, 35}
	wrong, unkind := api.LockTelegram{3, 0, 0, 5, 34}, api.LockTelegram{7, 0, 0, 5, 37}
	three := func(name string, a, b, c api.LockTelegram) fault {
		return fault{name, func(x *arguments) { x.three = [3]api.LockTelegram{a, b, c} }, api.ErrNone}
	}
	one := right().one
	return [][]fault{{
		three("no two alike", one, other, third), three("three wrong ones", wrong, wrong, wrong), three("two wrong ones", wrong, wrong, one),
		three("two wrong ones behind", one, wrong, wrong), three("two wrong ones around", wrong, one, wrong),
		three("three of no kind", unkind, unkind, unkind), three("one right", wrong, one, unkind), three("none", api.LockTelegram{}, api.LockTelegram{}, api.LockTelegram{}),
	}}
}

func orderFaults() [][]fault {
	var list []fault
	for _, counter := range []int{0, 4, 6, 250} {
		for _, kind := range []int{2, 4} { // turn 0 0, leave 0: not accepted either
			v := api.LockTelegram{kind, 0, 0, counter, (kind + 1 + 2 + 3 + 4*(counter+1)) % 251}
			list = append(list, fault{"counter of the telegram", func(a *arguments) { a.three = [3]api.LockTelegram{v, {}, v} }, api.ErrOrder})
		}
		list = append(list, fault{"counter of the state", func(a *arguments) { a.x.Counter = counter }, api.ErrOrder})
	}
	return [][]fault{list}
}

// receivedFaults are telegrams of events that are wrong, or not accepted.
func receivedFaults() [][]fault {
	var list []fault
	for _, f := range slices.Concat(slices.Concat(eventFaults(), refusalFaults())...) {
		var a arguments
		f.change(&a)
		v := api.LockTelegram{a.e.Kind, a.e.A, a.e.B, 5, (a.e.Kind + 1 + 2*(a.e.A+1) + 3*(a.e.B+1) + 24) % 251}
		if f.want == api.ErrKind || slices.Min(v[:]) < 0 || slices.Max(v[:]) > 250 {
			continue
		}
		list = append(list, fault{"received", func(a *arguments) { a.three = [3]api.LockTelegram{v, v, {}} }, f.want})
	}
	return [][]fault{list}
}

// P6.1 to P6.6, R1: each error of each function; the one that is listed first counts, whatever is wrong besides.
func TestErrors(t *testing.T) {
	for _, f := range functions() {
		if _, e := f.call(right()); e != api.OK {
			t.Error(f.name, e)
		}
		for i, list := range f.faults {
			for _, first := range list {
				a := right()
				first.change(&a)
				result, e := f.call(a)
				refused(t, f.name+": "+first.name, result, e, first.want)
				for _, second := range slices.Concat(f.faults[i+1:]...) {
					b := right()
					second.change(&b)
					first.change(&b)
					result, e := f.call(b)
					refused(t, f.name+": "+first.name+" ahead of "+second.name, result, e, first.want)
				}
			}
		}
	}
}
