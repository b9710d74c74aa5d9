package lock_test

import (
	"math/rand"
	"slices"
	"testing"

	"guideway/api"
	"guideway/lock"
)

// P6.3
func TestCheckEvent(t *testing.T) {
	for _, p := range []api.LockPlant{example(), plain(), only(), largest()} {
		right := rightEvents(p)
		for kind := -1; kind <= 7; kind++ {
			for a := -1; a <= 10; a++ {
				for b := -1; b <= 10; b++ {
					v := api.LockEvent{Kind: kind, A: a, B: b}
					if e := lock.CheckEvent(p, v); (e == api.OK) != slices.Contains(right, v) {
						t.Error(p, v, e)
					}
				}
			}
		}
	}
}

// P6.3: what each kind of event does, and why it is refused.
func TestApply(t *testing.T) {
	for _, c := range []struct {
		before, event, after string
		err                  api.Errno
	}{
		{"0 7 - -", "place 0 0", "0 7 1:0 -", api.OK},
		{"1 7 - 1:0", "place 0 2", "1 7 1:2 1:0", api.OK},
		{"0 7 1:0 -", "place 0 1", "", api.ErrState},
		{"0 7 1:0 -", "place 0 0", "", api.ErrState},
		{"0 7 - 1:0,1", "place 0 1", "", api.ErrBusy},
		{"0 7 - 2:0,1", "place 0 0", "", api.ErrBusy},
		{"0 7 1:0 -", "request 0 0", "0 7 1:0,1 -", api.OK},
		{"1 7 1:0 -", "request 0 1", "1 7 1:0,2 -", api.OK},
		{"0 7 1:0,1 -", "request 0 2", "0 7 1:0,1,2 -", api.OK},
		{"0 7 2:0,1 -", "request 0 2", "0 7 2:0,1,2 -", api.OK},
		{"0 7 - 1:0", "request 0 0", "", api.ErrState},
		{"0 7 1:0 -", "request 0 2", "", api.ErrOpen},
		{"0 7 1:0,1 -", "request 0 0", "", api.ErrOpen},
		{"0 7 1:0 1:1", "request 0 0", "", api.ErrBusy},
		{"0 7 1:0 1:2", "request 0 1", "", api.ErrBusy}, // ahead of the switch
		{"0 7 1:0 -", "request 0 1", "", api.ErrClash},
		{"1 7 1:0 -", "request 0 0", "", api.ErrClash},
		{"0 7 - -", "turn 0 1", "1 7 - -", api.OK},
		{"0 7 - -", "turn 0 0", "0 7 - -", api.OK},
		{"1 7 1:1,2 -", "turn 0 0", "0 7 1:1,2 -", api.OK},
		{"0 7 1:0 -", "turn 0 1", "", api.ErrBusy},
		{"0 7 1:0 -", "turn 0 0", "", api.ErrBusy},
		{"0 7 - 2:0,1", "turn 0 1", "", api.ErrBusy},
		{"0 7 1:0,1,2 -", "enter 0", "0 7 2:0,1,2 -", api.OK},
		{"0 7 2:0,1,2 -", "enter 0", "0 7 3:0,1,2 -", api.OK},
		{"0 7 - -", "enter 0", "", api.ErrState},
		{"0 7 2:0,1 -", "enter 0", "", api.ErrNone},
		{"0 7 2:0,1,2 -", "leave 0", "0 7 1:1,2 -", api.OK},
		{"0 7 2:0,1 1:2", "leave 0", "0 7 1:1 1:2", api.OK},
		{"0 7 - 1:0", "leave 0", "", api.ErrState},
		{"0 7 1:0,1 -", "leave 0", "", api.ErrNone},
		{"0 7 1:0,1,2 -", "give 0", "0 7 1:0,1 -", api.OK},
		{"0 7 - 1:0,1", "give 1", "0 7 - 1:0", api.OK},
		{"0 7 - 1:0,1", "give 0", "", api.ErrState},
		{"0 7 2:0,1 -", "give 0", "", api.ErrNone},
		{"0 7 1:0 1:1", "take 1", "0 7 1:0 -", api.OK},
		{"0 7 1:0 -", "take 1", "", api.ErrState},
		{"0 7 2:0,1 -", "take 0", "", api.ErrBusy},
		{"0 7 1:0,1 -", "take 0", "", api.ErrBusy},
	} {
		x, e := lock.Apply(example(), stateOf(t, c.before), eventsOf(t, c.event)[0])
		if c.err != api.OK {
			refused(t, c.before+", "+c.event, x, e, c.err)
		} else if e != api.OK || lock.FormatState(x) != c.after {
			t.Error(c, x, e)
		}
	}
}

// Chapter 6, More exactly: a switch in the first section, a route back, two routes, what is farthest ahead.
func TestRoutesThatAreRequested(t *testing.T) {
	first := plantOf(3, 1, []int{0, 2}, route([]int{1, 0}, 0, 1, 2))
	for text, want := range map[string]api.Errno{"10 0 1:0": api.OK, "00 0 1:0": api.ErrClash, "11 0 1:0": api.ErrClash} {
		if _, e := lock.Apply(first, stateOf(t, text), api.LockEvent{Kind: api.LockRequest}); e != want {
			t.Error(text, e, want)
		}
	}
	round := plantOf(3, 1, nil, route(nil, 0, 1, 2), route(nil, 2, 0), route(nil, 2, 1))
	x := stateOf(t, "- 0 1:0,1,2")
	for b := 1; b <= 2; b++ {
		y, e := lock.Apply(round, x, api.LockEvent{Kind: api.LockRequest, B: b})
		refused(t, "a route back", y, e, api.ErrBusy)
	}
	x = stateOf(t, "- 0 2:1,2")
	y, e := lock.Apply(round, x, api.LockEvent{Kind: api.LockRequest, B: 1}) // what it has left is free
	if e != api.OK || lock.FormatState(y) != "- 0 2:1,2,0" {
		t.Error(y, e)
	}
	other := eventsOf(t, "place 0 0", "request 0 0", "give 0", "give 0", "take 0", "turn 0 1", "place 0 0", "request 0 1")
	x, n, e := lock.Replay(example(), eventsOf(t, "place 0 0", "request 0 0", "request 0 2", "give 0", "give 0", "take 0", "turn 0 1", "place 0 0", "request 0 1"))
	if n != 0 || e != api.OK || lock.FormatState(x) != "1 0 1:0,2 -" {
		t.Error(x, n, e)
	}
	x, n, e = lock.Replay(example(), other)
	if n != 3 || e != api.ErrNone || !isZero(x) {
		t.Error(x, n, e)
	}
}

// P6.3
func TestReplay(t *testing.T) {
	turns := slices.Repeat(eventsOf(t, "turn 0 1", "turn 0 0"), 100)
	for _, c := range []struct {
		events []api.LockEvent
		state  string
		number int
		err    api.Errno
	}{
		{nil, "0 0 - -", 0, api.OK},
		{[]api.LockEvent{}, "0 0 - -", 0, api.OK},
		{eventsOf(t, "place 0 0", "request 0 0"), "0 0 1:0,1 -", 0, api.OK},
		{eventsOf(t, "place 0 0", "request 0 0", "enter 0", "leave 0", "turn 0 1"), "1 0 1:1 -", 0, api.OK},
		{eventsOf(t, "place 0 0", "request 0 0", "turn 0 1"), "", 2, api.ErrBusy},
		{eventsOf(t, "place 0 0", "place 1 3"), "", 1, api.ErrMissing},
		{eventsOf(t, "enter 1", "place 1 3"), "", 0, api.ErrState},
		{[]api.LockEvent{{Kind: 7}}, "", 0, api.ErrKind},
		{[]api.LockEvent{{Kind: api.LockPlace}, {Kind: api.LockEnter, B: 1}, {Kind: -1}}, "", 1, api.ErrForm},
		{turns, "0 0 - -", 0, api.OK},
		{append(turns[:199:199], api.LockEvent{Kind: api.LockTurn, B: 2}), "", 199, api.ErrRange},
	} {
		x, n, e := lock.Replay(example(), c.events)
		if n != c.number || e != c.err {
			t.Error(c, x, n, e)
		}
		if c.err != api.OK {
			refused(t, "Replay", x, e, c.err)
		} else if lock.FormatState(x) != c.state {
			t.Error(c, x)
		}
	}
}

// P6.3
func TestPossible(t *testing.T) {
	for text, want := range map[string][]string{
		"0 0 - -":       {"place 0 0", "place 0 1", "place 0 2", "place 1 0", "place 1 1", "place 1 2", "turn 0 0", "turn 0 1"},
		"0 9 1:0,1 -":   {"place 1 2", "request 0 2", "enter 0", "give 0"},
		"1 0 1:0 1:1":   {"request 0 1", "request 1 2", "take 0", "take 1"},
		"0 0 2:0,1,2 -": {"enter 0", "leave 0", "give 0"},
		"0 0 3:0,1,2 -": {"leave 0"},
		"1 0 - 2:1,2":   {"place 0 0", "turn 0 0", "turn 0 1", "leave 1"},
	} {
		l, e := lock.Possible(example(), stateOf(t, text))
		isList(t, l, e, eventsOf(t, want...)...)
	}
	l, e := lock.Possible(only(), stateOf(t, "- 0 1:0"))
	isList(t, l, e, eventsOf(t, "take 0")...)
}

// P6.3: each event in each state.
func TestEventsByDefinition(t *testing.T) {
	count := map[api.Errno]int{}
	eachState(t, func(r *rand.Rand, p api.LockPlant, x api.LockState) {
		x.Counter = r.Intn(251)
		var possible []api.LockEvent
		for _, v := range rightEvents(p) {
			want, err := behind(p, x, v)
			count[err]++
			y, e := lock.Apply(p, x, v)
			if e != err || !same(y, want) {
				t.Error(p, lock.FormatState(x), v, y, e, want, err)
			}
			if e == api.OK {
				possible = append(possible, v)
			}
		}
		l, e := lock.Possible(p, x)
		isList(t, l, e, possible...)
	})
	for _, err := range []api.Errno{api.OK, api.ErrState, api.ErrBusy, api.ErrOpen, api.ErrClash, api.ErrNone} {
		if count[err] < 100 {
			t.Error(err, count[err])
		}
	}
}

// P6.3
func TestReplayIsApplyAgainAndAgain(t *testing.T) {
	eachPlant(func(r *rand.Rand, p api.LockPlant) {
		x := begin(p)
		var l []api.LockEvent
		for i := range 100 {
			all := rightEvents(p)
			v := all[r.Intn(len(all))]
			y, err := behind(p, x, v)
			z, n, e := lock.Replay(p, append(l, v, v))
			if err != api.OK && (e != err || n != len(l) || !isZero(z)) {
				t.Error(i, z, n, e)
			}
			if err == api.OK {
				x, l = y, append(l, v)
			}
		}
		z, n, e := lock.Replay(p, l)
		if n != 0 || e != api.OK || !same(z, x) {
			t.Error(z, n, e)
		}
	})
}
