package care_test

import (
	"reflect"
	"slices"
	"sync"
	"testing"

	"guideway/api"
	"guideway/care"
)

// copiedArguments share no memory with others.
func copiedArguments(a arguments) arguments {
	a.s = copied(a.s)
	a.events = slices.Clone(a.events)
	a.rooms = api.CareRooms{People: slices.Clone(a.rooms.People), Ways: slices.Clone(a.rooms.Ways)}
	a.times, a.beams, a.windows, a.depots = slices.Clone(a.times), slices.Clone(a.beams), slices.Clone(a.windows), slices.Clone(a.depots)
	a.record.Readings, a.rescue.Depots, a.findings = slices.Clone(a.record.Readings), slices.Clone(a.rescue.Depots), slices.Clone(a.findings)
	a.work = api.CareWork{Windows: slices.Clone(a.work.Windows), Jobs: slices.Clone(a.work.Jobs)}
	return a
}

// results are those of all functions.
func results(a arguments) []any {
	begin, _ := care.Begin(a.r, a.place)
	next, _ := care.Apply(a.r, a.s, a.e)
	stopped, _ := care.Apply(a.r, a.s, event(api.CareGo))
	replayed, _, _ := care.Replay(a.r, a.place, a.events)
	none, _, _ := care.Replay(a.r, a.place, nil)
	events, _ := care.Possible(a.r, a.s, a.place)
	cut, _ := care.BestCut(a.rooms, a.ticks)
	suspects, _ := care.Suspects(a.record)
	faults, _ := care.LeastFaults(a.record)
	windows, _ := care.FirstWork(a.work)
	depots, _ := care.FewestDepots(a.rescue, a.within)
	open, _ := care.OpenOf(a.findings, a.limit)
	out, _ := care.OutBy(a.rooms, a.ticks)
	time, _ := care.LeastTime(a.rooms, a.ticks)
	bound, _ := care.CheckCut(a.rooms, a.times, a.ticks)
	count, _ := care.CheckFaults(a.record, a.beams)
	used, _ := care.CheckWork(a.work, a.windows)
	worst, _ := care.WorstPlace(a.rescue, a.depots)
	return []any{begin, next, stopped, replayed, none, events, cut, suspects, faults, windows, depots, open, out, time, bound, count, used, worst}
}

// spoil writes into all lists of a result, and behind them.
func spoil(x any) {
	switch x := x.(type) {
	case []int:
		for i := range x {
			x[i] = -7
		}
		_ = append(x, -7)
	case []api.CareEvent:
		for i := range x {
			x[i].Kind = -7
		}
		_ = append(x, event(-7))
	case api.CareState:
		spoilFlags(x.Gates)
		spoilFlags(x.Doors)
	}
}

func spoilFlags(list []bool) {
	for i := range list {
		list[i] = !list[i]
	}
	_ = append(list, true)
}

// R3, R4: no call writes into its arguments, or keeps them, and what is done with results changes nothing.
func TestMemory(t *testing.T) {
	a := right()
	want := results(copiedArguments(a))
	got := results(a)
	if !reflect.DeepEqual(a, right()) || !reflect.DeepEqual(got, want) {
		t.Error(a, got, want)
	}
	for _, x := range got {
		spoil(x)
	}
	if !reflect.DeepEqual(a, right()) {
		t.Error(a)
	}
	if again := results(a); !reflect.DeepEqual(again, want) {
		t.Error(again, want)
	}
}

// R3: calls that are refused write into nothing either.
func TestMemoryBesideErrors(t *testing.T) {
	for _, f := range functions() {
		for _, x := range slices.Concat(f.faults...) {
			a := right()
			x.change(&a)
			b := copiedArguments(a)
			f.call(a)
			if !reflect.DeepEqual(a, b) {
				t.Error(f.name, x.name, a, b)
			}
		}
	}
}

// R3: gates and doors of a state share no memory with each other, or with the state ahead of them.
func TestMemoryOfStates(t *testing.T) {
	roomy := make([]bool, 4)
	s, e := care.Apply(doors(), api.CareState{Place: 5000, Gates: roomy[:2], Doors: roomy[2:]}, eventOfDoor(api.CareGate, 0))
	if e != api.OK || slices.Contains(roomy, true) {
		t.Error(roomy, e)
	}
	begin, e := care.Begin(doors(), 5000)
	for _, x := range []api.CareState{s, begin} {
		doors := slices.Clone(x.Doors)
		_ = append(x.Gates, true, true, true)
		spoilFlags(x.Gates)
		if e != api.OK || slices.Contains(roomy, true) || !slices.Equal(x.Doors, doors) {
			t.Error(roomy, x, e)
		}
	}
}

// R4: calls at once do not disturb each other.
func TestCallsAtOnce(t *testing.T) {
	a := right()
	want := results(a)
	var calls sync.WaitGroup
	for range 20 {
		calls.Go(func() {
			if got := results(a); !reflect.DeepEqual(got, want) {
				t.Error(got, want)
			}
		})
	}
	calls.Wait()
}
