package lock_test

import (
	"math"
	"math/rand"
	"reflect"
	"slices"
	"testing"

	"guideway/api"
	"guideway/lock"
)

// example is the plant of the chapter's examples.
func example() api.LockPlant {
	return api.LockPlant{
		Sections: []string{"a", "b", "c"},
		Trains:   []string{"t", "u"},
		Switches: []api.LockSwitch{{Name: "w"}},
		Routes: []api.LockRoute{
			{Name: "ab", Sections: []int{0, 1}, Needs: []int{0}},
			{Name: "ac", Sections: []int{0, 2}, Needs: []int{1}},
			{Name: "bc", Sections: []int{1, 2}, Needs: []int{-1}},
		},
	}
}

// only is a plant of one section, and one train.
func only() api.LockPlant {
	return api.LockPlant{Sections: []string{"a"}, Trains: []string{"t"}}
}

// names are as many names as are asked for, each a letter.
func names(first byte, count int) []string {
	var list []string
	for i := range count {
		list = append(list, string(rune(int(first)+i)))
	}
	return list
}

// plantOf is a plant with as many sections and trains, and with the switches in these sections.
func plantOf(sections, trains int, switches []int, routes ...api.LockRoute) api.LockPlant {
	p := api.LockPlant{Sections: names('a', sections), Trains: names('t', trains), Routes: routes}
	for i, name := range names('p', len(switches)) {
		p.Switches = append(p.Switches, api.LockSwitch{Name: name, Section: switches[i]})
	}
	for i, name := range names('A', len(routes)) {
		p.Routes[i].Name = name
	}
	return p
}

func route(needs []int, sections ...int) api.LockRoute {
	return api.LockRoute{Sections: sections, Needs: needs}
}

// largest has as much of everything as a plant may have.
func largest() api.LockPlant {
	free := []int{-1, -1, -1, -1}
	return plantOf(8, 3, []int{7, 6, 5, 4},
		route([]int{0, 1, 0, 1}, 0, 1, 2, 3, 4, 5, 6, 7), route([]int{1, 0, 1, 0}, 7, 6, 5, 4, 3, 2, 1, 0),
		route(free, 0, 1), route(free, 1, 2), route(free, 2, 3), route(free, 3, 2), route(free, 2, 1), route(free, 1, 0),
		route(free, 3, 0), route([]int{-1, -1, -1, 1}, 0, 4))
}

// copied is a plant that shares no memory with another one.
func copied(p api.LockPlant) api.LockPlant {
	p.Sections, p.Trains = slices.Clone(p.Sections), slices.Clone(p.Trains)
	p.Switches, p.Routes = slices.Clone(p.Switches), slices.Clone(p.Routes)
	for i, r := range p.Routes {
		p.Routes[i].Sections, p.Routes[i].Needs = slices.Clone(r.Sections), slices.Clone(r.Needs)
	}
	return p
}

// copiedState is a state that shares no memory with another one.
func copiedState(x api.LockState) api.LockState {
	x.Switches, x.Trains = slices.Clone(x.Switches), slices.Clone(x.Trains)
	for i, t := range x.Trains {
		x.Trains[i].Chain = slices.Clone(t.Chain)
	}
	return x
}

// same compares states; nil lists and empty ones are the same.
func same(x, y api.LockState) bool {
	return x.Counter == y.Counter && slices.Equal(x.Switches, y.Switches) &&
		slices.EqualFunc(x.Trains, y.Trains, func(a, b api.LockTrain) bool {
			return a.Under == b.Under && slices.Equal(a.Chain, b.Chain)
		})
}

// stateOf is the state with a text.
func stateOf(t *testing.T, text string) api.LockState {
	t.Helper()
	x, e := lock.ParseState(text)
	if e != api.OK {
		t.Fatal(text, e)
	}
	return x
}

// eventsOf are the events with texts.
func eventsOf(t *testing.T, texts ...string) []api.LockEvent {
	t.Helper()
	var list []api.LockEvent
	for _, text := range texts {
		v, e := lock.ParseEvent(text)
		if e != api.OK {
			t.Fatal(text, e)
		}
		list = append(list, v)
	}
	return list
}

// outside are numbers that are not from lo to hi.
func outside(lo, hi int) []int {
	return []int{lo - 1, hi + 1, math.MinInt, math.MaxInt}
}

// isZero tells whether a result is its zero value, or an empty list.
func isZero(x any) bool {
	v := reflect.ValueOf(x)
	return !v.IsValid() || v.IsZero() || v.Kind() == reflect.Slice && v.Len() == 0
}

// refused fails if a call has not this error, or another result beside it.
func refused(t *testing.T, name string, result any, e, want api.Errno) {
	t.Helper()
	if e != want || !isZero(result) {
		t.Error(name, result, e, want)
	}
}

// isList fails if a call has not this list as its result.
func isList[T comparable](t *testing.T, got []T, e api.Errno, want ...T) {
	t.Helper()
	if e != api.OK || !slices.Equal(got, want) {
		t.Error(got, e, want)
	}
}

// isNumber fails if a call has not this number as its result.
func isNumber(t *testing.T, got int, e api.Errno, want int) {
	t.Helper()
	if e != api.OK || got != want {
		t.Error(got, e, want)
	}
}

// randomPlant is a plant with at most so many sections and trains.
func randomPlant(r *rand.Rand, sections, trains int) api.LockPlant {
	sections = 1 + r.Intn(sections)
	var routes []api.LockRoute
	switches := r.Perm(sections)[:r.Intn(min(sections, 4)+1)]
	for range r.Intn(11) {
		if sections == 1 {
			break
		}
		count := 2 + r.Intn(r.Intn(sections-1)+1)
		next := route(nil, r.Perm(sections)[:count]...)
		for _, section := range switches {
			need := -1
			if slices.Contains(next.Sections, section) {
				need = r.Intn(2)
			}
			next.Needs = append(next.Needs, need)
		}
		routes = append(routes, next)
	}
	return plantOf(sections, 1+r.Intn(trains), switches, routes...)
}

// eachPlant calls a function with several plants.
func eachPlant(f func(r *rand.Rand, p api.LockPlant)) {
	r := rand.New(rand.NewSource(1))
	for _, p := range []api.LockPlant{example(), only(), largest()} {
		f(r, p)
	}
	for range 150 {
		f(r, randomPlant(r, 5, 3))
		f(r, randomPlant(r, 8, 3))
	}
}

// eachState calls a function with states that can be reached: all of them, if there are few.
func eachState(t *testing.T, f func(r *rand.Rand, p api.LockPlant, x api.LockState)) {
	t.Helper()
	eachPlant(func(r *rand.Rand, p api.LockPlant) {
		for _, x := range nearest(p, begin(p), 60) {
			f(r, p, x)
		}
		x := begin(p)
		for range 60 {
			x = moved(r, p, x)
			f(r, p, x)
		}
	})
}

// moved is the state behind an event that is accepted; events that lengthen chains are likelier.
func moved(r *rand.Rand, p api.LockPlant, x api.LockState) api.LockState {
	var next []api.LockState
	for _, e := range rightEvents(p) {
		if y, err := behind(p, x, e); err == api.OK {
			next = append(next, y)
			if e.Kind == api.LockRequest || e.Kind == api.LockEnter {
				next = append(next, y, y, y)
			}
		}
	}
	if len(next) == 0 {
		return x
	}
	return next[r.Intn(len(next))]
}
