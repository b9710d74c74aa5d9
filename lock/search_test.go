package lock_test

import (
	"math/rand"
	"slices"
	"testing"

	"guideway/api"
	"guideway/lock"
)

// just has 2000 states that can be reached, one over 2001.
func just() api.LockPlant {
	return plantOf(5, 3, []int{3}, route([]int{1}, 3, 2), route([]int{0}, 3, 2, 1, 0, 4), route([]int{-1}, 0, 2), route([]int{-1}, 1, 2))
}

func oneOver() api.LockPlant {
	return plantOf(7, 2, nil, route(nil, 4, 0), route(nil, 1, 2, 0, 6), route(nil, 6, 0), route(nil, 4, 3, 2), route(nil, 0, 4), route(nil, 0, 4),
		route(nil, 1, 4), route(nil, 6, 0), route(nil, 6, 1, 5))
}

// wayAsked is a plant, a state, where a train should stand, and how many states must be looked at.
type wayAsked struct {
	p    api.LockPlant
	text string
	to   [2]int
	look int
}

// longWays are ways for which about as many states must be looked at as may be.
func longWays() []wayAsked {
	no := []int{-1}
	one := plantOf(8, 3, []int{4, 3}, route([]int{0, -1}, 0, 4, 1, 7, 2, 5, 6), route([]int{-1, -1}, 0, 1), route([]int{-1, 1}, 1, 3),
		route([]int{-1, -1}, 1, 0), route([]int{0, 0}, 3, 4), route([]int{-1, -1}, 1, 0), route([]int{0, -1}, 2, 4), route([]int{0, 0}, 4, 3))
	two := plantOf(8, 3, []int{5}, route(no, 1, 6, 7), route([]int{1}, 2, 4, 5), route(no, 3, 0), route(no, 2, 3), route(no, 7, 0),
		route(no, 2, 3, 4), route(no, 0, 1), route(no, 6, 3), route(no, 0, 4), route(no, 4, 2))
	three := plantOf(8, 3, []int{1}, route(no, 3, 7, 4), route(no, 6, 0, 5), route(no, 5, 2), route(no, 2, 6), route(no, 6, 2),
		route([]int{0}, 4, 1, 0, 5), route(no, 6, 0), route(no, 2, 3), route(no, 3, 5), route(no, 4, 0))
	four := plantOf(8, 3, []int{7}, route([]int{0}, 6, 4, 3, 0, 7, 2, 5), route(no, 3, 0), route(no, 4, 6), route(no, 1, 4), route(no, 4, 0),
		route(no, 1, 3), route(no, 3, 4), route(no, 5, 6, 0), route(no, 5, 4), route([]int{0}, 3, 7))
	return []wayAsked{
		{one, "00 0 4:4,1,7,2,5,6 - 1:3", [2]int{0, 3}, 2000},
		{two, "1 0 3:1,6,7,0 - 1:2,3", [2]int{2, 7}, 2000},
		{three, "0 0 1:3,7,4,1,0,5,2 - 1:6", [2]int{0, 6}, 2001},
		{four, "0 0 3:7,2,5,4 - 2:1,3", [2]int{2, 5}, 2001},
	}
}

// distance is by how few events a train can stand on a section, and how many states can be reached by fewer.
func distance(p api.LockPlant, x api.LockState, to [2]int) (int, int) {
	known := map[string]bool{lock.FormatState(x): true}
	level := []api.LockState{x}
	for events, count := 0, 0; ; events++ {
		for _, y := range level {
			if t := y.Trains[to[0]]; slices.Contains(t.Chain[:t.Under], to[1]) {
				return events, count
			}
		}
		count = len(known)
		var next []api.LockState
		for _, y := range level {
			for _, v := range rightEvents(p) {
				z, err := behind(p, y, v)
				if text := lock.FormatState(z); err == api.OK && !known[text] {
					known[text] = true
					next = append(next, z)
				}
			}
		}
		level = next
	}
}

// leadsTo fails if events are not accepted, or do not lead where they should.
func leadsTo(t *testing.T, p api.LockPlant, x api.LockState, l []api.LockEvent, to [2]int) {
	t.Helper()
	for _, v := range l {
		y, e := lock.Apply(p, x, v)
		if e != api.OK {
			t.Error(p, lock.FormatState(x), v, e)
			return
		}
		x = y
	}
	if train := x.Trains[to[0]]; !slices.Contains(train.Chain[:train.Under], to[1]) {
		t.Error(p, lock.FormatState(x), l, to)
	}
}

// P6.5
func TestReached(t *testing.T) {
	for want, p := range map[int]api.LockPlant{
		2:    only(),
		7:    plantOf(2, 2, nil),
		12:   plantOf(2, 1, []int{1, 0}),
		13:   plantOf(3, 2, nil),
		5:    plantOf(2, 1, nil, route(nil, 0, 1), route(nil, 0, 1)), // -, 1:0, 1:1, 1:0,1, 2:0,1
		8:    plantOf(2, 1, []int{0}, route([]int{1}, 0, 1)),         // and -, 1:0, 1:1 with the switch in 0
		529:  plantOf(8, 3, nil),                                     // 1 + 3*8 + 3*8*7 + 8*7*6
		1168: plantOf(8, 2, []int{0, 1, 2, 3}, []api.LockRoute{}...), // 16 * (1 + 2*8 + 8*7)
		1832: plantOf(6, 3, []int{5, 4, 3}, []api.LockRoute{}...),    // 8 * (1 + 3*6 + 3*6*5 + 6*5*4)
		2000: just(),
	} {
		n, e := lock.Reached(p)
		isNumber(t, n, e, want)
	}
	for _, p := range []api.LockPlant{oneOver(), largest(), plantOf(8, 3, []int{0, 1})} {
		n, e := lock.Reached(p)
		refused(t, "Reached", n, e, api.ErrLarge)
	}
	for want, p := range map[int]api.LockPlant{2000: just(), 2001: oneOver()} {
		if n := len(nearest(p, begin(p), 3000)); n != want {
			t.Error(n, want)
		}
	}
}

// P6.5
func TestReachedByDefinition(t *testing.T) {
	large := 0
	eachPlant(func(r *rand.Rand, p api.LockPlant) {
		n, e := lock.Reached(p)
		want := len(nearest(p, begin(p), 2001))
		if want <= 2000 {
			isNumber(t, n, e, want)
		} else {
			refused(t, "Reached", n, e, api.ErrLarge)
			large++
		}
	})
	if large < 20 {
		t.Error(large)
	}
}

// P6.5: the chapter's examples, and ways for which other trains must give way.
func TestWay(t *testing.T) {
	for _, c := range []struct {
		text   string
		to     [2]int
		events int
	}{
		{"0 0 - -", [2]int{0, 2}, 1},
		{"0 0 1:0,1 -", [2]int{0, 2}, 3},
		{"0 0 1:0,1 -", [2]int{0, 0}, 0},
		{"0 0 2:0,1 -", [2]int{0, 0}, 0},
		{"0 0 2:0,1 -", [2]int{0, 1}, 0},
		{"0 0 1:0,1 -", [2]int{0, 1}, 1}, // enter
		{"0 250 1:0,1 -", [2]int{0, 1}, 1},
		{"0 0 1:0 -", [2]int{0, 1}, 2},     // request, enter
		{"0 0 1:0 -", [2]int{0, 2}, 2},     // take, place
		{"0 0 1:0 1:2", [2]int{0, 2}, 3},   // both are taken off
		{"0 0 1:0 1:1,2", [2]int{0, 2}, 3}, // the other one gives it back
		{"0 0 - 1:1,2", [2]int{0, 1}, 3},   // it enters and leaves; then place
		{"0 0 - 3:0,1,2", [2]int{0, 0}, 2}, // leave, place
		{"0 0 - 3:0,1,2", [2]int{0, 2}, 4}, // leave, leave, take, place
		{"0 0 1:0,1,2 -", [2]int{1, 0}, 3}, // enter, leave, place
		{"1 0 1:0,2 1:1", [2]int{1, 2}, 3}, // give of the other one; request, enter
		{"1 0 1:1,2 -", [2]int{1, 0}, 1},
	} {
		x := stateOf(t, c.text)
		l, e := lock.Way(example(), x, c.to)
		if e != api.OK || len(l) != c.events {
			t.Error(c, l, e)
		}
		leadsTo(t, example(), x, l, c.to)
	}
	l, e := lock.Way(only(), stateOf(t, "- 0 -"), [2]int{0, 0})
	isList(t, l, e, eventsOf(t, "place 0 0")...)
	l, e = lock.Way(only(), stateOf(t, "- 0 1:0"), [2]int{0, 0})
	isList(t, l, e)
}

// P6.5: how many states would have to be looked at.
func TestWaysThatAreLong(t *testing.T) {
	for _, w := range longWays() {
		x := stateOf(t, w.text)
		events, look := distance(w.p, x, w.to)
		if look != w.look {
			t.Error(w, look)
		}
		l, e := lock.Way(w.p, x, w.to)
		if look > 2000 {
			refused(t, "Way", l, e, api.ErrLarge)
			continue
		}
		if e != api.OK || len(l) != events {
			t.Error(w, l, e, events)
		}
		leadsTo(t, w.p, x, l, w.to)
	}
}

// P6.5: only the states that must be looked at count, however many can be reached.
func TestShortWaysInLargePlants(t *testing.T) {
	x := begin(largest())
	for train := range 3 {
		for section := range 8 {
			l, e := lock.Way(largest(), x, [2]int{train, section})
			isList(t, l, e, api.LockEvent{Kind: api.LockPlace, A: train, B: section})
		}
	}
}

// P6.5, P6.13: the events are accepted, and lead where they should; no fewer do.
func TestWaysByDefinition(t *testing.T) {
	count := map[int]int{}
	r := rand.New(rand.NewSource(2))
	for range 400 {
		p := randomPlant(r, 8, 3)
		x := begin(p)
		for range 30 {
			x = moved(r, p, x)
		}
		to := [2]int{r.Intn(len(p.Trains)), r.Intn(len(p.Sections))}
		events, look := distance(p, x, to)
		l, e := lock.Way(p, x, to)
		if look > 2000 {
			refused(t, "Way", l, e, api.ErrLarge)
			continue
		}
		count[events]++
		if e != api.OK || len(l) != events {
			t.Error(p, lock.FormatState(x), to, l, e, events)
		}
		leadsTo(t, p, x, l, to)
	}
	for events := range 5 {
		if count[events] < 5 {
			t.Error(events, count[events])
		}
	}
}

// P6.5, LANGUAGE: which way is found does not depend on what runs first.
func TestWaysAreTheSameAgain(t *testing.T) {
	for _, w := range longWays()[:2] {
		x := stateOf(t, w.text)
		first, e := lock.Way(w.p, x, w.to)
		for range 10 {
			l, f := lock.Way(w.p, x, w.to)
			isList(t, l, f, first...)
		}
		if e != api.OK || len(first) == 0 {
			t.Error(first, e)
		}
	}
}
