package timetable_test

import (
	"math"
	"math/rand"
	"reflect"
	"slices"
	"testing"

	"guideway/api"
	"guideway/timetable"
)

// Short names of kinds, and of no greatest duration.
const (
	run     = api.TimetableRun
	stop    = api.TimetableStop
	connect = api.TimetableConnect
	headway = api.TimetableHeadway
	turn    = api.TimetableTurn
	open    = api.TimetableOpen
)

// example is the net of the chapter's examples.
func example() api.TimetableNet {
	return net(4,
		api.TimetableActivity{Kind: run, From: 0, To: 1, Least: 10, Most: 20},
		api.TimetableActivity{Kind: stop, From: 1, To: 2, Least: 5, Most: open},
		api.TimetableActivity{Kind: connect, From: 2, To: 3, Least: 3, Most: open, Wait: 4},
		api.TimetableActivity{Kind: headway, From: 0, To: 3, Least: 30, Most: 40})
}

// circular is the net of the chapter's example 2.
func circular() api.TimetableNet {
	n := example()
	n.Activities = append(n.Activities, api.TimetableActivity{Kind: stop, From: 1, To: 2, Least: 30, Most: 30})
	return n
}

// net has so many events, a and so on, and activities.
func net(events int, activities ...api.TimetableActivity) api.TimetableNet {
	n := api.TimetableNet{Activities: activities}
	for i := range events {
		n.Events = append(n.Events, string(rune('a'+i)))
	}
	return n
}

// from is an activity of no connection.
func from(from, to, least, most int) api.TimetableActivity {
	return api.TimetableActivity{Kind: run, From: from, To: to, Least: least, Most: most}
}

// largest has as many events and activities as there may be: a chain, with other ways beside it.
func largest() api.TimetableNet {
	n := net(16)
	for i := range 15 {
		n.Events[i] = "abcdefghij-" + string(rune('a'+i))
		n.Activities = append(n.Activities, from(i, i+1, 100000, 100000), from(i, 15, 1, open))
	}
	return n
}

// copied is a net that shares no memory with another one.
func copied(n api.TimetableNet) api.TimetableNet {
	return api.TimetableNet{Events: slices.Clone(n.Events), Activities: slices.Clone(n.Activities)}
}

// alike tells whether nets are the same; nil lists and empty ones are.
func alike(a, b api.TimetableNet) bool {
	return slices.Equal(a.Events, b.Events) && slices.Equal(a.Activities, b.Activities)
}

// outside are numbers that are not from lo to hi.
func outside(lo, hi int) []int {
	return []int{lo - 1, hi + 1, math.MinInt, math.MaxInt}
}

// isZero tells whether a result is its zero value, or an empty list.
func isZero(x any) bool {
	v := reflect.ValueOf(x)
	return !v.IsValid() || v.IsZero() || v.Kind() == reflect.Slice && v.Len() == 0
}

// refused fails if a call has not this error, or another result beside it.
func refused(t *testing.T, name string, result any, e, want api.Errno) {
	t.Helper()
	if e != want || !isZero(result) {
		t.Error(name, result, e, want)
	}
}

// isList fails if a call has not this list as its result.
func isList[T comparable](t *testing.T, got []T, e api.Errno, want ...T) {
	t.Helper()
	if e != api.OK || !slices.Equal(got, want) {
		t.Error(got, e, want)
	}
}

// is fails if a call has not this result.
func is[T comparable](t *testing.T, got T, e api.Errno, want T) {
	t.Helper()
	if e != api.OK || got != want {
		t.Error(got, e, want)
	}
}

// isNumbered fails if a call has not this number and this error.
func isNumbered(t *testing.T, got int, e api.Errno, want int, err api.Errno) {
	t.Helper()
	if got != want || e != err {
		t.Error(got, e, want, err)
	}
}

// one is any element of a list.
func one[T any](r *rand.Rand, list ...T) T {
	return list[r.Intn(len(list))]
}

// randomNet is a net with so many events and at most so many activities; durations and waits are small.
func randomNet(r *rand.Rand, events, activities, longest int) api.TimetableNet {
	n := net(events)
	for range r.Intn(activities + 1) {
		if events == 1 {
			break
		}
		a := api.TimetableActivity{Kind: r.Intn(api.TimetableKinds), From: r.Intn(events), Least: 1 + r.Intn(longest), Most: open}
		a.To = (a.From + 1 + r.Intn(events-1)) % events
		if r.Intn(4) > 0 && a.From > a.To { // most lead to greater numbers: so there is not always a cycle
			a.From, a.To = a.To, a.From
		}
		if r.Intn(2) == 0 {
			a.Most = a.Least + r.Intn(longest)
		}
		if a.Kind == connect {
			a.Wait = r.Intn(longest + 1)
		}
		n.Activities = append(n.Activities, a)
	}
	return n
}

// rightNet is a net that has right times, and some of them.
func rightNet(r *rand.Rand, events, activities, longest int) (api.TimetableNet, []int) {
	for range 10000 {
		n := randomNet(r, events, activities, longest)
		early := make([]int, events)
		for i := range early {
			early[i] = r.Intn(3 * longest)
		}
		if times, e := timetable.Earliest(n, early); e == api.OK {
			return n, times
		}
	}
	panic("no right net is found")
}

// keeps tells whether times keep an activity, by the definition.
func keeps(a api.TimetableActivity, times []int) bool {
	takes := times[a.To] - times[a.From]
	return a.Least <= takes && (takes <= a.Most || a.Most == -1)
}

// broken is the first activity that times do not keep, false if they are right.
func broken(n api.TimetableNet, times []int) (int, bool) {
	i := slices.IndexFunc(n.Activities, func(a api.TimetableActivity) bool { return !keeps(a, times) })
	return max(i, 0), i >= 0
}

// eachTimes calls a function with all lists of so many times, each from lo to hi, in order, until it answers false.
func eachTimes(count, lo, hi int, f func(times []int) bool) {
	times := slices.Repeat([]int{lo}, count)
	for f(times) {
		i := count - 1
		for ; i >= 0 && times[i] == hi; i-- {
			times[i] = lo
		}
		if i < 0 {
			return
		}
		times[i]++
	}
}

// arc is a step by its definition.
type arc struct{ from, to, length int }

// arcOf is a step of a net, false if there is none.
func arcOf(n api.TimetableNet, s api.TimetableStep) (arc, bool) {
	a := n.Activities[s.Activity]
	if s.Back {
		return arc{a.To, a.From, -a.Most}, a.Most != -1
	}
	return arc{a.From, a.To, a.Least}, true
}

// none is a length less than that of any walk.
const none = math.MinInt / 4

// distances are the greatest lengths of walks between all events (none: there is none), found by going through one event
// after the other; false if there is a cycle.
func distances(n api.TimetableNet) ([][]int, bool) {
	count := len(n.Events)
	d := make([][]int, count)
	for i := range d {
		d[i] = slices.Repeat([]int{none}, count)
		d[i][i] = 0
	}
	for i := range n.Activities {
		for _, back := range []bool{false, true} {
			if s, ok := arcOf(n, api.TimetableStep{Activity: i, Back: back}); ok {
				d[s.from][s.to] = max(d[s.from][s.to], s.length)
			}
		}
	}
	for through := range count {
		for i := range count {
			for k := range count {
				if d[i][through] > none && d[through][k] > none {
					d[i][k] = max(d[i][k], d[i][through]+d[through][k])
				}
			}
		}
	}
	for i := range count {
		if d[i][i] > 0 {
			return nil, false
		}
	}
	return d, true
}
