package care_test

import (
	"math"
	"math/rand"
	"reflect"
	"slices"
	"testing"

	"guideway/api"
	"guideway/care"
)

// doors are those of the chapter's examples.
func doors() api.CareDoors {
	return api.CareDoors{Doors: 2, Target: 5000, Slack: 100}
}

// shut is a state of the examples' doors: the train stands at a place, all is shut, and there is no alarm.
func shut(place int) api.CareState {
	return api.CareState{Place: place, Gates: make([]bool, 2), Doors: make([]bool, 2)}
}

// rooms are those of the chapter's example 3.
func rooms() api.CareRooms {
	return api.CareRooms{People: []int{10, 5}, Ways: []api.CareWay{{From: 0, To: 1, Most: 4}, {From: 1, To: api.CareOut, Most: 3}}}
}

// record is that of the chapter's example 4.
func record() api.CareRecord {
	return api.CareRecord{Beams: 5, Readings: []api.CareReading{{From: 0, To: 1}, {From: 1, To: 3, Wrong: true}, {From: 2, To: 4, Wrong: true}}}
}

// work is that of the chapter's example 5.
func work() api.CareWork {
	return api.CareWork{Windows: []int{8, 8}, Jobs: []api.CareJob{{Hours: 5, Last: 1}, {Hours: 4, Last: 1}, {Hours: 3}}}
}

// rescue is that of the chapter's example 6.
func rescue() api.CareRescue {
	return api.CareRescue{Length: 1000, Depots: []api.CareDepot{{}, {Place: 1000, Late: 100}, {Place: 400}}}
}

// findings are those of the chapter's example 7, and one of another beam.
func findings() []api.CareFinding {
	return []api.CareFinding{{Name: "ins", Date: 10, Beam: 3, Off: 50}, {Name: "ins", Date: 9, Beam: 1, Off: 31}, {Name: "ins", Date: 10, Beam: 3, Off: -20}}
}

func event(kind int) api.CareEvent             { return api.CareEvent{Kind: kind} }
func stopAt(place int) api.CareEvent           { return api.CareEvent{Kind: api.CareStop, Place: place} }
func eventOfDoor(kind, door int) api.CareEvent { return api.CareEvent{Kind: kind, Door: door} }

// outside are numbers that are not from lo to hi.
func outside(lo, hi int) []int {
	return []int{lo - 1, hi + 1, math.MinInt, math.MinInt + 1, math.MaxInt}
}

// isZero tells whether a result is its zero value, or an empty list.
func isZero(x any) bool {
	v := reflect.ValueOf(x)
	return !v.IsValid() || v.IsZero() || v.Kind() == reflect.Slice && v.Len() == 0
}

// refused fails if a call has not this error, or another result beside it.
func refused(t *testing.T, name string, result any, e, want api.Errno) {
	t.Helper()
	if e != want || !isZero(result) {
		t.Error(name, result, e, want)
	}
}

// isList fails if a call has not this list as its result.
func isList[T comparable](t *testing.T, got []T, e api.Errno, want ...T) {
	t.Helper()
	if e != api.OK || !slices.Equal(got, want) {
		t.Error(got, e, want)
	}
}

// is fails if a call has not this result.
func is[T comparable](t *testing.T, got T, e api.Errno, want T) {
	t.Helper()
	if e != api.OK || got != want {
		t.Error(got, e, want)
	}
}

// isState fails if a call has not this state as its result.
func isState(t *testing.T, got api.CareState, e api.Errno, want api.CareState) {
	t.Helper()
	if e != api.OK || !reflect.DeepEqual(got, want) {
		t.Error(got, e, want)
	}
}

// one is any element of a list.
func one[T any](r *rand.Rand, list ...T) T {
	return list[r.Intn(len(list))]
}

// copied is a state that shares no memory with another one.
func copied(s api.CareState) api.CareState {
	s.Gates, s.Doors = slices.Clone(s.Gates), slices.Clone(s.Doors)
	return s
}

// flags are lists of so many flags, all of them.
func flags(count int) [][]bool {
	list := [][]bool{{}}
	for range count {
		var longer [][]bool
		for _, l := range list {
			longer = append(longer, append(slices.Clone(l), false), append(slices.Clone(l), true))
		}
		list = longer
	}
	return list
}

// states are all states of so many doors, right and wrong ones, at some places.
func states(doors int, places ...int) []api.CareState {
	var list []api.CareState
	for _, place := range places {
		for _, both := range flags(2) {
			for _, gates := range flags(doors) {
				for _, open := range flags(doors) {
					list = append(list, api.CareState{Moving: both[0], Alarm: both[1], Place: place, Gates: slices.Clone(gates), Doors: slices.Clone(open)})
				}
			}
		}
	}
	return list
}

// rightStates are those of the states that are right.
func rightStates(r api.CareDoors, places ...int) []api.CareState {
	return slices.DeleteFunc(states(r.Doors, places...), func(s api.CareState) bool { return care.CheckState(r, s) != api.OK })
}

// eachList calls a function with all lists of so many numbers, each from lo to hi, in order, until it answers false.
func eachList(count, lo, hi int, f func(list []int) bool) {
	list := slices.Repeat([]int{lo}, count)
	for f(list) {
		i := count - 1
		for ; i >= 0 && list[i] == hi; i-- {
			list[i] = lo
		}
		if i < 0 {
			return
		}
		list[i]++
	}
}

// sets are all sets of numbers below one, the smaller ones first, those of one size lexicographically.
func sets(count int) [][]int {
	var list [][]int
	for _, members := range flags(count) {
		var set []int
		for i, isMember := range members {
			if isMember {
				set = append(set, i)
			}
		}
		list = append(list, set)
	}
	slices.SortFunc(list, func(a, b []int) int {
		if len(a) != len(b) {
			return len(a) - len(b)
		}
		return slices.Compare(a, b)
	})
	return list
}
