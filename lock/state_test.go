package lock_test

import (
	"math/rand"
	"slices"
	"testing"

	"guideway/api"
	"guideway/lock"
)

// P6.1
func TestConflicts(t *testing.T) {
	l, e := lock.Conflicts(example())
	isList(t, l, e, [][2]int{{0, 1}, {0, 2}, {1, 2}}...)
	l, e = lock.Conflicts(only())
	isList(t, l, e)
	l, e = lock.Conflicts(plantOf(6, 1, nil, route(nil, 0, 1), route(nil, 2, 3), route(nil, 4, 5)))
	isList(t, l, e)
	l, e = lock.Conflicts(plantOf(6, 1, nil, route(nil, 0, 1, 2), route(nil, 5, 4), route(nil, 3, 2), route(nil, 4, 3), route(nil, 1, 0)))
	isList(t, l, e, [][2]int{{0, 2}, {0, 4}, {1, 3}, {2, 3}}...)
}

// P6.1
func TestRoutesFrom(t *testing.T) {
	for section, want := range [][]int{{0, 1}, {2}, {}} {
		l, e := lock.RoutesFrom(example(), section)
		isList(t, l, e, want...)
	}
	l, e := lock.RoutesFrom(only(), 0)
	isList(t, l, e)
}

// P6.1
func TestRoutesByDefinition(t *testing.T) {
	eachPlant(func(r *rand.Rand, p api.LockPlant) {
		var pairs [][2]int
		for i, a := range p.Routes {
			for j, b := range p.Routes {
				common := 0
				for _, section := range a.Sections {
					if slices.Contains(b.Sections, section) {
						common++
					}
				}
				if i < j && common > 0 {
					pairs = append(pairs, [2]int{i, j})
				}
			}
		}
		l, e := lock.Conflicts(p)
		isList(t, l, e, pairs...)
		for section := range p.Sections {
			var from []int
			for i, a := range p.Routes {
				if a.Sections[0] == section {
					from = append(from, i)
				}
			}
			l, e := lock.RoutesFrom(p, section)
			isList(t, l, e, from...)
		}
	})
}

// P6.2
func TestBegin(t *testing.T) {
	for _, p := range []api.LockPlant{example(), only(), largest(), plain()} {
		x, e := lock.Begin(p)
		if e != api.OK || !same(x, begin(p)) {
			t.Error(x, e)
		}
	}
}

// P6.2
func TestCheckState(t *testing.T) {
	for text, want := range map[string]api.Errno{
		"0 0 - -":           api.OK,
		"1 250 - -":         api.OK,
		"0 0 1:0,1 -":       api.OK,
		"0 0 2:0,1,2 -":     api.OK,
		"0 0 3:0,1,2 -":     api.OK,
		"1 0 1:0,2 1:1":     api.OK,
		"1 0 1:1,2 1:0":     api.OK,
		"0 0 - 1:0,1":       api.OK,
		"1 0 1:0,1 -":       api.ErrOpen, // the switch lies for the other route
		"0 0 1:0,2 -":       api.ErrOpen,
		"0 0 1:1,0 -":       api.ErrOpen, // a route leads one way
		"1 0 1:0,1,2 -":     api.ErrOpen,
		"0 0 1:0 1:0":       api.ErrBusy,
		"0 0 1:0,1 1:1":     api.ErrBusy,
		"0 0 1:1 2:0,1":     api.ErrBusy,
		"0 0 2:0,1,0 -":     api.ErrBusy,
		"0 0 2:0,0 -":       api.ErrBusy,
		"0 0 3:0,1 -":       api.ErrForm,
		"0 0 0:0,1 -":       api.ErrForm,
		"0 0 - 2:0":         api.ErrForm,
		"0 251 - -":         api.ErrRange,
		"0 0 -":             api.ErrShape,
		"0 0 - - -":         api.ErrShape,
		"- 0 - -":           api.ErrShape,
		"00 0 - -":          api.ErrShape,
		"0 0 1:3 -":         api.ErrMissing,
		"0 0 1:0,3 -":       api.ErrMissing,
		"0 0 1:0,1,2,3 -":   api.ErrMissing,
		"0 0 1:0,2,3 -":     api.ErrOpen, // ahead of what comes behind
		"0 0 1:0,1,0,2 -":   api.ErrBusy,
		"0 0 1:0,1 1:1,0,3": api.ErrBusy,
		"0 0 1:3 2:0":       api.ErrMissing,
		"0 0 2:0 1:3":       api.ErrForm,
	} {
		if e := lock.CheckState(example(), stateOf(t, text)); e != want {
			t.Error(text, e, want)
		}
	}
	twice := plantOf(2, 1, []int{0}, route([]int{0}, 0, 1), route([]int{1}, 0, 1)) // one route that fits is enough
	for _, text := range []string{"0 0 1:0,1", "1 0 1:0,1"} {
		if e := lock.CheckState(twice, stateOf(t, text)); e != api.OK {
			t.Error(text, e)
		}
	}
	long := plantOf(3, 1, []int{2}, route([]int{1}, 0, 1, 2)) // only switches in the two sections count
	for text, want := range map[string]api.Errno{"0 0 1:0,1": api.OK, "0 0 1:0,1,2": api.ErrOpen, "1 0 1:0,1,2": api.OK, "0 0 1:1,2": api.ErrOpen, "1 0 1:0,2": api.ErrOpen} {
		if e := lock.CheckState(long, stateOf(t, text)); e != want {
			t.Error(text, e, want)
		}
	}
	if e := lock.CheckState(largest(), stateOf(t, "0101 0 8:0,1,2,3,4,5,6,7 - -")); e != api.OK {
		t.Error(e)
	}
}

// P6.2
func TestStatesByDefinition(t *testing.T) {
	count := map[api.Errno]int{}
	eachPlant(func(r *rand.Rand, p api.LockPlant) {
		for range 200 {
			x := randomState(r, p)
			want := errorOfState(p, x)
			count[want]++
			if e := lock.CheckState(p, x); e != want {
				t.Error(p, lock.FormatState(x), e, want)
			}
		}
	})
	for _, err := range []api.Errno{api.OK, api.ErrShape, api.ErrRange, api.ErrForm, api.ErrMissing, api.ErrBusy, api.ErrOpen} {
		if count[err] < 100 {
			t.Error(err, count[err])
		}
	}
}

// randomState is a state that is often right: chains go along routes.
func randomState(r *rand.Rand, p api.LockPlant) api.LockState {
	x := api.LockState{Counter: r.Intn(256)}
	for range len(p.Switches) + r.Intn(20)/19 {
		x.Switches = append(x.Switches, r.Intn(2)+r.Intn(30)/29)
	}
	for range len(p.Trains) + r.Intn(20)/19 {
		var chain []int
		if r.Intn(4) > 0 {
			chain = append(chain, r.Intn(len(p.Sections)+r.Intn(20)/19))
		}
		for range r.Intn(5) {
			if len(chain) == 0 || len(p.Routes) == 0 {
				break
			}
			route := p.Routes[r.Intn(len(p.Routes))].Sections
			if i := slices.Index(route, chain[len(chain)-1]); i >= 0 {
				chain = append(chain, route[i+1:]...)
			} else if r.Intn(30) == 0 {
				chain = append(chain, r.Intn(len(p.Sections)))
			}
		}
		under := min(1, len(chain))
		if len(chain) > 0 {
			under += r.Intn(len(chain))
		}
		x.Trains = append(x.Trains, api.LockTrain{Chain: chain, Under: under + r.Intn(30)/29 - r.Intn(30)/29})
	}
	return x
}

// P6.4
func TestHolderOf(t *testing.T) {
	x := stateOf(t, "1 0 1:1 1:0,2")
	for section, want := range []int{1, 0, 1} {
		n, e := lock.HolderOf(example(), x, section)
		isNumber(t, n, e, want)
	}
	for section := range 3 {
		n, e := lock.HolderOf(example(), stateOf(t, "0 0 - -"), section)
		refused(t, "HolderOf", n, e, api.ErrNone)
	}
}

// P6.4
func TestLocked(t *testing.T) {
	p := plantOf(4, 2, []int{3, 1, 2}, route([]int{-1, 1, 0}, 0, 1, 2))
	for text, want := range map[string][]int{
		"000 0 - -": {}, "010 0 1:0 -": {}, "010 0 1:0,1 -": {1}, "010 0 2:0,1,2 -": {1, 2}, "010 0 - 1:1,2": {1, 2},
		"010 0 1:0,1,2 1:3": {0, 1, 2}, "111 0 1:3 1:2": {0, 2},
	} {
		l, e := lock.Locked(p, stateOf(t, text))
		isList(t, l, e, want...)
	}
}

// P6.4
func TestEndOf(t *testing.T) {
	x := stateOf(t, "1 0 1:1 1:0,2")
	for train, want := range []int{1, 2} {
		n, e := lock.EndOf(example(), x, train)
		isNumber(t, n, e, want)
	}
	n, e := lock.EndOf(example(), stateOf(t, "1 0 1:1 -"), 1)
	refused(t, "EndOf", n, e, api.ErrState)
}

// P6.4
func TestQuestionsByDefinition(t *testing.T) {
	eachState(t, func(r *rand.Rand, p api.LockPlant, x api.LockState) {
		for section := range p.Sections {
			n, e := lock.HolderOf(p, x, section)
			if l := holders(x, section); len(l) == 0 {
				refused(t, "HolderOf", n, e, api.ErrNone)
			} else {
				isNumber(t, n, e, l[0])
			}
		}
		var locked []int
		for i, s := range p.Switches {
			if len(holders(x, s.Section)) > 0 {
				locked = append(locked, i)
			}
		}
		l, e := lock.Locked(p, x)
		isList(t, l, e, locked...)
		for i, train := range x.Trains {
			n, e := lock.EndOf(p, x, i)
			if long := len(train.Chain); long == 0 {
				refused(t, "EndOf", n, e, api.ErrState)
			} else {
				isNumber(t, n, e, train.Chain[long-1])
			}
		}
	})
}
