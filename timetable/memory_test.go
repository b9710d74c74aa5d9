package timetable_test

import (
	"reflect"
	"slices"
	"sync"
	"testing"

	"guideway/api"
	"guideway/timetable"
)

// copiedArguments share no memory with others.
func copiedArguments(a arguments) arguments {
	a.n = copied(a.n)
	a.times, a.round, a.steps, a.delays, a.u.Uses = slices.Clone(a.times), slices.Clone(a.round), slices.Clone(a.steps), slices.Clone(a.delays), slices.Clone(a.u.Uses)
	return a
}

// results are those of all functions that return lists.
func results(a arguments) []any {
	earliest, _ := timetable.Earliest(a.n, a.times)
	long := copied(a.n)
	long.Activities[1].Least = 28
	cycle, _ := timetable.FindCycle(long)
	length, walk, _ := timetable.Between(a.n, a.event, a.second)
	late, _ := timetable.Late(a.n, a.times, a.delays)
	events, _ := timetable.LateEvents(a.n, a.times, a.delays)
	periodic, _ := timetable.FirstPeriodic(a.n, a.period)
	fewer, _ := timetable.Without(a.n, len(a.n.Activities)-1)
	text, _ := timetable.Print(a.n)
	parsed, _, _ := timetable.Parse(text)
	return []any{earliest, cycle, length, walk, late, events, periodic, fewer, text, parsed}
}

// spoil writes into all lists of a result, and behind them.
func spoil(x any) {
	switch x := x.(type) {
	case []int:
		spoilNumbers(x)
	case []api.TimetableStep:
		for i := range x {
			x[i] = api.TimetableStep{Activity: -7}
		}
	case api.TimetableLate:
		spoilNumbers(x.Times)
		spoilNumbers(x.GivenUp)
	case api.TimetableNet:
		for i := range x.Events {
			x.Events[i] = "-"
		}
		_ = append(x.Events, "-")
		for i := range x.Activities {
			x.Activities[i] = api.TimetableActivity{Kind: -7}
		}
		_ = append(x.Activities, api.TimetableActivity{Kind: -7})
	}
}

func spoilNumbers(list []int) {
	for i := range list {
		list[i] = -7
	}
	_ = append(list, -7)
}

// R3, R4: no call writes into its arguments, or keeps them, and what is done with results changes nothing.
func TestMemory(t *testing.T) {
	a := right()
	a.n.Activities = a.n.Activities[:4:4]
	want := results(copiedArguments(a))
	got := results(a)
	if !reflect.DeepEqual(a, right()) || !reflect.DeepEqual(got, want) {
		t.Error(a, got, want)
	}
	for _, x := range got {
		spoil(x)
	}
	if !reflect.DeepEqual(a, right()) {
		t.Error(a)
	}
	if again := results(a); !reflect.DeepEqual(again, want) {
		t.Error(again, want)
	}
}

// R3: a result has all of its memory for itself also where there is room behind the lists of arguments.
func TestMemoryBehindLists(t *testing.T) {
	n := example()
	roomy := api.TimetableNet{Events: append(make([]string, 0, 20), n.Events...), Activities: append(make([]api.TimetableActivity, 0, 20), n.Activities...)}
	for i := range n.Activities {
		got, e := timetable.Without(roomy, i)
		if e != api.OK || !alike(roomy, n) {
			t.Error(roomy, e)
		}
		spoil(got)
		if !alike(roomy, n) {
			t.Error(roomy)
		}
	}
	late, e := timetable.Late(n, []int{0, 10, 15, 30}, []api.TimetableDelay{{Event: 2, By: 5}})
	_ = append(late.Times[:2], 99)
	_ = append(late.GivenUp, 99)
	if e != api.OK || !slices.Equal(late.GivenUp, []int{2}) {
		t.Error(late, e)
	}
}

// R4: calls at once do not disturb each other.
func TestCallsAtOnce(t *testing.T) {
	a := right()
	want := results(a)
	var calls sync.WaitGroup
	for range 20 {
		calls.Go(func() {
			if got := results(a); !reflect.DeepEqual(got, want) {
				t.Error(got, want)
			}
		})
	}
	calls.Wait()
}
