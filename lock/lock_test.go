package lock_test

import (
	"math"
	"math/rand"
	"reflect"
	"slices"
	"testing"

	"guideway/api"
	"guideway/lock"
)

// accepted calls a function with each event that is accepted in a state, and the state behind it.
func accepted(t *testing.T, p api.LockPlant, x api.LockState, f func(v api.LockEvent, y api.LockState)) {
	t.Helper()
	l, e := lock.Possible(p, x)
	if e != api.OK {
		t.Error(p, x, e)
	}
	for _, v := range l {
		y, e := lock.Apply(p, x, v)
		if e != api.OK {
			t.Error(p, x, v, e)
			continue
		}
		f(v, y)
	}
}

// P6.8: each section is in one chain at most, and once in it.
func TestNeverTwo(t *testing.T) {
	eachState(t, func(r *rand.Rand, p api.LockPlant, x api.LockState) {
		accepted(t, p, x, func(v api.LockEvent, y api.LockState) {
			for section := range p.Sections {
				if l := holders(y, section); len(l) > 1 {
					t.Error(p, lock.FormatState(x), v, lock.FormatState(y))
				}
			}
		})
	})
}

// P6.8: of two trains that request routes that conflict one at most gets it.
func TestRoutesThatConflict(t *testing.T) {
	tried := 0
	eachState(t, func(r *rand.Rand, p api.LockPlant, x api.LockState) {
		conflicts, _ := lock.Conflicts(p)
		accepted(t, p, x, func(v api.LockEvent, y api.LockState) {
			if v.Kind != api.LockRequest {
				return
			}
			for train := range x.Trains {
				end, e := lock.EndOf(p, x, train)
				from, _ := lock.RoutesFrom(p, end)
				if train == v.A || e != api.OK {
					continue
				}
				for _, other := range from {
					if !slices.Contains(conflicts, [2]int{v.B, other}) && !slices.Contains(conflicts, [2]int{other, v.B}) {
						continue
					}
					tried++
					z, e := lock.Apply(p, y, api.LockEvent{Kind: api.LockRequest, A: train, B: other})
					refused(t, "the second one", z, e, api.ErrBusy)
				}
			}
		})
	})
	if tried < 1000 {
		t.Error(tried)
	}
}

// P6.9: no event changes the chain of another train; by which ones a chain gets shorter, and by what.
func TestNeverShortened(t *testing.T) {
	eachState(t, func(r *rand.Rand, p api.LockPlant, x api.LockState) {
		accepted(t, p, x, func(v api.LockEvent, y api.LockState) {
			for i, before := range x.Trains {
				behind := y.Trains[i]
				if v.Kind == api.LockTurn || v.A != i {
					if behind.Under != before.Under || !slices.Equal(behind.Chain, before.Chain) {
						t.Error(v, before, behind)
					}
					continue
				}
				want := before.Chain
				switch v.Kind {
				case api.LockLeave:
					want = want[1:]
					if before.Under < 2 {
						t.Error(v, before)
					}
				case api.LockGive:
					want = want[:len(want)-1]
					if before.Under > len(want) {
						t.Error(v, before)
					}
				case api.LockTake:
					want = nil
				default:
					if len(behind.Chain) < len(want) {
						t.Error(v, before, behind)
						continue
					}
					behind.Chain = behind.Chain[:len(want)]
				}
				if !slices.Equal(behind.Chain, want) {
					t.Error(v, before, behind)
				}
			}
		})
	})
}

// P6.10: a switch whose section is in a chain does not turn.
func TestLockedSwitches(t *testing.T) {
	eachState(t, func(r *rand.Rand, p api.LockPlant, x api.LockState) {
		for i, s := range p.Switches {
			for position := range 2 {
				y, e := lock.Apply(p, x, api.LockEvent{Kind: api.LockTurn, A: i, B: position})
				if l := holders(x, s.Section); len(l) > 0 {
					refused(t, "turn", y, e, api.ErrBusy)
				} else if e != api.OK || y.Switches[i] != position {
					t.Error(p, x, y, e)
				}
			}
		}
		accepted(t, p, x, func(v api.LockEvent, y api.LockState) {
			for i := range p.Switches {
				if y.Switches[i] != x.Switches[i] && (v.Kind != api.LockTurn || v.A != i) {
					t.Error(p, x, v, y)
				}
			}
		})
	})
}

// got is two sections that a route joins, which a train has got by it.
type got struct{ train, route, from, to int }

// P6.10: as long as a train has both sections that its route joins, the switches in them lie as it needs.
func TestSwitchesLieUntilLeft(t *testing.T) {
	eachPlant(func(r *rand.Rand, p api.LockPlant) {
		x := begin(p)
		var all []got
		for range 300 {
			l, _ := lock.Possible(p, x)
			v := l[r.Intn(len(l))]
			if again := l[r.Intn(len(l))]; v.Kind != api.LockRequest && again.Kind == api.LockTurn {
				v = again
			}
			x, _ = lock.Apply(p, x, v)
			if v.Kind == api.LockRequest {
				sections := p.Routes[v.B].Sections
				for i := range len(sections) - 1 {
					all = append(all, got{v.A, v.B, sections[i], sections[i+1]})
				}
			}
			all = slices.DeleteFunc(all, func(g got) bool {
				chain := x.Trains[g.train].Chain
				return !slices.Contains(chain, g.from) || !slices.Contains(chain, g.to)
			})
			for _, g := range all {
				if r := p.Routes[g.route]; !lies(p, x, r, g.from) || !lies(p, x, r, g.to) {
					t.Error(p, lock.FormatState(x), g)
				}
			}
		}
	})
}

// P6.11: behind each event the state is right.
func TestRightStates(t *testing.T) {
	eachState(t, func(r *rand.Rand, p api.LockPlant, x api.LockState) {
		accepted(t, p, x, func(v api.LockEvent, y api.LockState) {
			if err := errorOfState(p, y); err != api.OK {
				t.Error(p, lock.FormatState(x), v, lock.FormatState(y), err)
			}
			if e := lock.CheckState(p, y); e != api.OK {
				t.Error(p, lock.FormatState(x), v, lock.FormatState(y), e)
			}
		})
	})
}

// spacious returns arguments with room behind their lists, in which something may be written.
func spacious() arguments {
	a := right()
	a.p = copied(a.p)
	a.x = copiedState(a.x)
	a.l = slices.Grow(eventsThatMove(), 9)
	for i, r := range a.p.Routes {
		a.p.Routes[i].Sections = roomy(r.Sections)
		a.p.Routes[i].Needs = roomy(r.Needs)
	}
	a.x.Switches = roomy(a.x.Switches)
	a.x.Trains = slices.Grow(a.x.Trains, 9)
	for i, train := range a.x.Trains {
		a.x.Trains[i].Chain = roomy(train.Chain)
	}
	return a
}

func eventsThatMove() []api.LockEvent {
	return []api.LockEvent{{Kind: api.LockPlace}, {Kind: api.LockRequest}, {Kind: api.LockEnter}, {Kind: api.LockLeave}}
}

// roomy is a list with a 77 behind it.
func roomy(list []int) []int {
	return append(slices.Grow(slices.Clone(list), 9), 77)[:len(list)]
}

// isRoomy tells whether all 77 are there still.
func isRoomy(a arguments) bool {
	lists := [][]int{a.x.Switches}
	for _, r := range a.p.Routes {
		lists = append(lists, r.Sections, r.Needs)
	}
	for _, train := range a.x.Trains {
		lists = append(lists, train.Chain)
	}
	return !slices.ContainsFunc(lists, func(list []int) bool { return list[:len(list)+1][len(list)] != 77 })
}

// withEachEvent calls a function with arguments of all events that are accepted.
func withEachEvent(f func(arguments)) {
	for _, text := range []string{"10 5 1:0,2 1:1", "01 5 - 2:0,1", "00 5 2:0,1 -", "00 5 - -"} {
		a := spacious()
		x, _ := lock.ParseState(text)
		for _, v := range rightEvents(a.p) {
			b := spacious()
			b.x, b.e = copiedState(x), v
			b.x.Switches = roomy(b.x.Switches)
			for i, train := range b.x.Trains {
				b.x.Trains[i].Chain = roomy(train.Chain)
			}
			b.one = rightTelegram(v.Kind, v.A, v.B, 5)
			b.three = [3]api.LockTelegram{b.one, b.one, b.one}
			f(b)
		}
	}
}

// R3: no function writes into its arguments.
func TestArgumentsAreKept(t *testing.T) {
	for _, f := range functions() {
		withEachEvent(func(a arguments) {
			before := copiedState(a.x)
			f.call(a)
			if !reflect.DeepEqual(a.p, copied(plain())) || !same(a.x, before) || !slices.Equal(a.l, eventsThatMove()) {
				t.Error(f.name, "writes into", a)
			}
			if !isRoomy(a) {
				t.Error(f.name, "writes behind", a)
			}
		})
	}
}

// overwritten writes into all of a result, and behind its lists.
func overwritten(result any) {
	spoil := func(list []int) {
		list = list[:cap(list)]
		for i := range list {
			list[i] = -7
		}
	}
	switch x := result.(type) {
	case []int:
		spoil(x)
	case [][2]int:
		for i := range x {
			x[i] = [2]int{-7, -7}
		}
	case []api.LockEvent:
		for i := range x {
			x[i] = api.LockEvent{Kind: -7}
		}
	case api.LockState:
		for _, train := range x.Trains {
			spoil(train.Chain)
		}
		spoil(x.Switches)
		trains := x.Trains[:cap(x.Trains)]
		for i := range trains {
			trains[i] = api.LockTrain{Under: -7}
		}
	}
}

// R3: results share no memory with arguments, nor with other results.
func TestResultsAreNew(t *testing.T) {
	for _, f := range functions() {
		withEachEvent(func(a arguments) {
			before := copiedState(a.x)
			first, _ := f.call(a)
			second, e := f.call(a)
			overwritten(first)
			third, g := f.call(a)
			if !reflect.DeepEqual(a.p, copied(plain())) || !same(a.x, before) || !isRoomy(a) {
				t.Error(f.name, "shares memory with", a)
			}
			if e != g || !reflect.DeepEqual(second, third) {
				t.Error(f.name, second, third)
			}
		})
	}
}

// R3: the lists of one result share no memory with each other.
func TestListsAreApart(t *testing.T) {
	withEachEvent(func(a arguments) {
		x, e := lock.Apply(a.p, a.x, a.e)
		if e != api.OK {
			return
		}
		want := copiedState(x)
		for i := range x.Trains {
			x.Trains[i].Chain = append(x.Trains[i].Chain, 9)
			want.Trains[i].Chain = append(want.Trains[i].Chain, 9)
			x.Switches = append(x.Switches, 9)
			want.Switches = append(want.Switches, 9)
			if !same(x, want) {
				t.Error(a, x, want)
			}
		}
	})
}

// R2: nothing panics, whatever the arguments are; R1: beside an error all is zero.
func TestNothingPanics(t *testing.T) {
	r := rand.New(rand.NewSource(1))
	number := func() int {
		return []int{-1, 0, 0, 0, 1, 1, 1, 2, 2, 3, 4, 8, 250, 251, math.MinInt, math.MaxInt}[r.Intn(16)]
	}
	numbers := func() []int {
		list := make([]int, r.Intn(5))
		for i := range list {
			list[i] = number()
		}
		return list
	}
	all := functions()
	for range 3000 {
		a := right()
		a.p = copied(a.p)
		for range r.Intn(3) {
			switch i := r.Intn(3); r.Intn(8) {
			case 0:
				a.p.Routes[i].Sections = numbers()
			case 1:
				a.p.Routes[i].Needs = numbers()
			case 2:
				a.p.Switches[i/2].Section = number()
			case 3:
				a.p.Sections = a.p.Sections[:i]
			case 4:
				a.p.Trains = a.p.Trains[:i]
			}
		}
		if r.Intn(2) == 0 {
			a.x = api.LockState{Switches: numbers(), Counter: number(), Trains: []api.LockTrain{{Chain: numbers(), Under: number()}, {Chain: numbers(), Under: number()}}[:r.Intn(3)]}
		}
		a.e, a.section, a.train = api.LockEvent{Kind: number(), A: number(), B: number()}, number(), number()
		a.l = slices.Repeat([]api.LockEvent{a.e}, r.Intn(3))
		a.to, a.counter = [2]int{number(), number()}, number()
		a.one = api.LockTelegram{number(), number(), number(), number(), number()}
		a.three[r.Intn(3)], a.three[r.Intn(3)] = a.one, a.one
		for _, f := range all {
			if result, e := f.call(a); e != api.OK && f.name != "Replay" && !isZero(result) {
				t.Fatal(f.name, a, result, e)
			}
		}
		lock.CheckPlant(a.p)
		lock.FormatEvent(a.e)
		lock.FormatState(a.x)
	}
}
