package timetable_test

import (
	"math/rand"
	"slices"
	"testing"

	"guideway/api"
	"guideway/timetable"
)

// isLate fails if a call has not these actual times, and these connections given up.
func isLate(t *testing.T, got api.TimetableLate, e api.Errno, times, givenUp []int) {
	t.Helper()
	if e != api.OK || !slices.Equal(got.Times, times) || !slices.Equal(got.GivenUp, givenUp) {
		t.Error(got, e, times, givenUp)
	}
}

// P8.5: the chapter's examples 5 and 6.
func TestLateOfTheExample(t *testing.T) {
	times := []int{0, 10, 15, 30}
	for _, c := range []struct {
		delays               []api.TimetableDelay
		times, givenUp, late []int
	}{
		{nil, times, nil, nil},
		{[]api.TimetableDelay{{Event: 2, By: 5}}, []int{0, 10, 20, 30}, []int{2}, []int{2}},
		{[]api.TimetableDelay{{Event: 2, By: 4}}, []int{0, 10, 19, 30}, nil, []int{2}},
		{[]api.TimetableDelay{{Event: 0, By: 2}}, []int{2, 12, 17, 32}, nil, []int{0, 1, 2, 3}},
		{[]api.TimetableDelay{{Event: 0, By: 5}}, []int{5, 15, 20, 35}, []int{2}, []int{0, 1, 2, 3}},
		{[]api.TimetableDelay{{Event: 1, By: 100}}, []int{0, 110, 115, 30}, []int{2}, []int{1, 2}},
		{[]api.TimetableDelay{{Event: 3, By: 100000}}, []int{0, 10, 15, 100030}, nil, []int{3}},
		{[]api.TimetableDelay{{Event: 3, By: 1}, {Event: 0, By: 2}}, []int{2, 12, 17, 32}, nil, []int{0, 1, 2, 3}},
		{[]api.TimetableDelay{{Event: 3, By: 3}, {Event: 0, By: 2}}, []int{2, 12, 17, 33}, nil, []int{0, 1, 2, 3}},
		{[]api.TimetableDelay{{Event: 2, By: 1}, {Event: 1, By: 1}}, []int{0, 11, 16, 30}, nil, []int{1, 2}},
	} {
		got, e := timetable.Late(example(), times, c.delays)
		isLate(t, got, e, c.times, c.givenUp)
		late, e := timetable.LateEvents(example(), times, c.delays)
		isList(t, late, e, c.late...)
	}
	for event, want := range []int{0, 0, 4, 100000} {
		got, e := timetable.MostDelay(example(), times, event)
		is(t, got, e, want)
	}
}

// P8.5: delays at the greatest times are not beyond anything.
func TestLateAtTheLimit(t *testing.T) {
	n := net(2, from(0, 1, 100000, 100000))
	got, e := timetable.Late(n, []int{9900000, 10000000}, []api.TimetableDelay{{Event: 0, By: 100000}})
	isLate(t, got, e, []int{10000000, 10100000}, nil)
	late := []api.TimetableDelay{}
	times := make([]int, 16)
	for i := range times {
		times[i] = 100000 * i
	}
	for event := 15; event >= 4; event-- { // twelve delays, in any order
		late = append(late, api.TimetableDelay{Event: event, By: 16 - event})
	}
	got, e = timetable.Late(largest(), times, late)
	want := slices.Clone(times)
	for i := 4; i < 16; i++ {
		want[i] += 12
	}
	isLate(t, got, e, want, nil)
}

// P8.5: all connections are listed, and one that is given up counts for nothing, while another activity of the same events does.
func TestGivenUp(t *testing.T) {
	n := net(3,
		api.TimetableActivity{Kind: connect, From: 1, To: 2, Least: 5, Most: open, Wait: 3},
		api.TimetableActivity{Kind: connect, From: 0, To: 1, Least: 5, Most: open},
		api.TimetableActivity{Kind: connect, From: 1, To: 2, Least: 4, Most: 9, Wait: 7},
		api.TimetableActivity{Kind: connect, From: 0, To: 2, Least: 1, Most: open, Wait: 100000},
		api.TimetableActivity{Kind: turn, From: 1, To: 2, Least: 2, Most: 8})
	times := []int{0, 5, 10}
	for _, c := range []struct {
		by             int
		times, givenUp []int
	}{
		{3, []int{0, 8, 13}, nil}, {4, []int{0, 9, 13}, []int{0}}, {7, []int{0, 12, 16}, []int{0}}, {8, []int{0, 13, 15}, []int{0, 2}},
	} {
		got, e := timetable.Late(n, times, []api.TimetableDelay{{Event: 1, By: c.by}})
		isLate(t, got, e, c.times, c.givenUp)
	}
	got, e := timetable.Late(n, times, []api.TimetableDelay{{Event: 0, By: 1}})
	isLate(t, got, e, []int{1, 5, 10}, []int{1})
	got, e = timetable.Late(n, times, []api.TimetableDelay{{Event: 0, By: 100000}, {Event: 1, By: 8}})
	isLate(t, got, e, []int{100000, 13, 100001}, []int{0, 1, 2})
}

// actually are the actual times by the definition, worked out from each event back to those ahead of it.
func actually(n api.TimetableNet, times []int, delays []api.TimetableDelay) api.TimetableLate {
	var actual func(event int) int
	givenUp := func(a api.TimetableActivity) bool {
		return a.Kind == api.TimetableConnect && actual(a.From) > times[a.From]+a.Wait
	}
	actual = func(event int) int {
		time := times[event]
		for _, d := range delays {
			if d.Event == event {
				time += d.By
			}
		}
		for _, a := range n.Activities {
			if a.To == event && !givenUp(a) {
				time = max(time, actual(a.From)+a.Least)
			}
		}
		return time
	}
	var l api.TimetableLate
	for event := range n.Events {
		l.Times = append(l.Times, actual(event))
	}
	for i, a := range n.Activities {
		if givenUp(a) {
			l.GivenUp = append(l.GivenUp, i)
		}
	}
	return l
}

// randomDelays are at most so many delays of different events.
func randomDelays(r *rand.Rand, events, most, longest int) []api.TimetableDelay {
	var delays []api.TimetableDelay
	for _, event := range r.Perm(events) {
		if len(delays) < most && r.Intn(2) == 0 {
			delays = append(delays, api.TimetableDelay{Event: event, By: 1 + r.Intn(longest)})
		}
	}
	return delays
}

// shuffled is a net whose events are told in another order, with their times.
func shuffled(r *rand.Rand, n api.TimetableNet, times []int) (api.TimetableNet, []int) {
	places := r.Perm(len(n.Events))
	other := copied(n)
	otherTimes := make([]int, len(times))
	for i, place := range places {
		otherTimes[place] = times[i]
	}
	for i, a := range n.Activities {
		other.Activities[i].From, other.Activities[i].To = places[a.From], places[a.To]
	}
	return other, otherTimes
}

// P8.5: by the definitions.
func TestLate(t *testing.T) {
	r := rand.New(rand.NewSource(1))
	given, kept := 0, 0
	for range 3000 {
		n, times := rightNet(r, 1+r.Intn(8), 10, 6)
		n, times = shuffled(r, n, times)
		delays := randomDelays(r, len(n.Events), one(r, 1, 2, 12), 8)
		want := actually(n, times, delays)
		got, e := timetable.Late(n, times, delays)
		isLate(t, got, e, want.Times, want.GivenUp)
		given += len(want.GivenUp)
		var late []int
		for i, time := range want.Times {
			if time > times[i] {
				late = append(late, i)
			}
		}
		kept += len(late)
		events, e := timetable.LateEvents(n, times, delays)
		isList(t, events, e, late...)
	}
	if given < 300 || kept < 3000 {
		t.Error(given, kept)
	}
}

// P8.5: by the definition: with each lesser delay nothing else is late, or given up, with the next one something is.
func TestMostDelay(t *testing.T) {
	r := rand.New(rand.NewSource(2))
	counts := map[int]int{}
	for range 1000 {
		n, times := rightNet(r, 1+r.Intn(6), 8, 6)
		n, times = shuffled(r, n, times)
		for event := range n.Events {
			got, e := timetable.MostDelay(n, times, event)
			want := 0
			for _, by := range append(numbers(1, 40), 99999, 100000) {
				l := actually(n, times, []api.TimetableDelay{{Event: event, By: by}})
				l.Times[event] = times[event]
				if slices.Equal(l.Times, times) && len(l.GivenUp) == 0 {
					want = by
				}
			}
			is(t, got, e, want)
			counts[want]++
		}
	}
	if len(counts) < 12 || counts[0] < 100 || counts[100000] < 100 {
		t.Error(counts)
	}
}

// P8.5: reserves and waits near the greatest delay.
func TestMostDelayAtTheLimit(t *testing.T) {
	for _, c := range []struct{ wait, reserve, want int }{
		{100000, 100000, 100000}, {100000, 99999, 99999}, {99999, 100000, 99999}, {99999, 100001, 99999}, {100000, 9999999, 100000}, {0, 9999999, 0}, {100000, 0, 0}, {7, 6, 6}, {6, 7, 6},
	} {
		n := net(2, api.TimetableActivity{Kind: connect, From: 1, To: 0, Least: 1, Most: open, Wait: c.wait})
		got, e := timetable.MostDelay(n, []int{c.reserve + 1, 0}, 1)
		is(t, got, e, c.want)
		n.Activities[0].Kind, n.Activities[0].Wait = turn, 0
		got, e = timetable.MostDelay(n, []int{c.reserve + 1, 0}, 1)
		is(t, got, e, min(c.reserve, 100000))
	}
}

// P8.12: no actual time is less than the time; further delays, and greater ones, make no event without connections ahead of it
// earlier.
func TestMoreDelays(t *testing.T) {
	r := rand.New(rand.NewSource(3))
	for range 1000 {
		n, times := rightNet(r, 2+r.Intn(7), 10, 6)
		n, times = shuffled(r, n, times)
		delays := randomDelays(r, len(n.Events), 3, 8)
		l, e := timetable.Late(n, times, delays)
		more := randomDelays(r, len(n.Events), 4, 8)
		for _, d := range delays {
			more = slices.DeleteFunc(more, func(other api.TimetableDelay) bool { return other.Event == d.Event })
			more = append(more, api.TimetableDelay{Event: d.Event, By: d.By + r.Intn(3)})
		}
		later, wrong := timetable.Late(n, times, more)
		if e != api.OK || wrong != api.OK {
			t.Fatal(e, wrong)
		}
		connected := behindConnections(n)
		for i := range n.Events {
			if l.Times[i] < times[i] || !connected[i] && later.Times[i] < l.Times[i] {
				t.Error(n, times, delays, l, more, later)
			}
		}
	}
}

// behindConnections tells of each event whether a connection is ahead of it.
func behindConnections(n api.TimetableNet) []bool {
	behind := make([]bool, len(n.Events))
	for range n.Events {
		for _, a := range n.Activities {
			behind[a.To] = behind[a.To] || behind[a.From] || a.Kind == connect
		}
	}
	return behind
}

// P8.12: delays within the reserves of all activities behind an event make nothing else late.
func TestDelaysWithinReserves(t *testing.T) {
	r := rand.New(rand.NewSource(4))
	tried := 0
	for range 2000 {
		n, times := rightNet(r, 2+r.Intn(6), 7, 8)
		event, most := r.Intn(len(n.Events)), 20
		for i, a := range n.Activities {
			if a.From != event {
				continue
			}
			reserve, e := timetable.ReserveOf(n, times, i)
			if e != api.OK {
				t.Fatal(e)
			}
			most = min(most, reserve)
		}
		for by := 1; by <= most; by++ {
			tried++
			late, e := timetable.LateEvents(n, times, []api.TimetableDelay{{Event: event, By: by}})
			isList(t, late, e, event)
		}
	}
	if tried < 1000 {
		t.Error(tried)
	}
}
