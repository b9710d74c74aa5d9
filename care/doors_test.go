package care_test

import (
	"math/rand"
	"reflect"
	"slices"
	"testing"

	"guideway/api"
	"guideway/care"
)

// inPlace tells whether a train is in place, by the definition.
func inPlace(r api.CareDoors, s api.CareState) bool {
	return r.Target-r.Slack <= s.Place && s.Place <= r.Target+r.Slack
}

// unguarded tells whether a door is open whose gate is not.
func unguarded(s api.CareState) bool {
	for i := range s.Doors {
		if s.Doors[i] && !s.Gates[i] {
			return true
		}
	}
	return false
}

// anyOpen tells whether a gate or a door is open.
func anyOpen(s api.CareState) bool {
	return slices.Contains(s.Gates, true) || slices.Contains(s.Doors, true)
}

// row is a condition, and the error if it holds.
type row struct {
	holds bool
	err   api.Errno
}

// rows are the errors of an event that fits the doors, as the chapter's table lists them.
func rows(r api.CareDoors, s api.CareState, e api.CareEvent) []row {
	switch e.Kind {
	case api.CareGo:
		return []row{{s.Moving, api.ErrState}, {anyOpen(s), api.ErrOpen}}
	case api.CareStop:
		return []row{{!s.Moving, api.ErrState}}
	case api.CareGate:
		return []row{{s.Moving, api.ErrState}, {!inPlace(r, s), api.ErrOrder}, {s.Gates[e.Door], api.ErrDouble}}
	case api.CareBar:
		return []row{{!s.Gates[e.Door], api.ErrState}, {s.Doors[e.Door] && !s.Alarm, api.ErrOpen}}
	case api.CareOpen:
		return []row{{s.Moving, api.ErrState}, {!s.Alarm && !inPlace(r, s), api.ErrOrder}, {!s.Alarm && !s.Gates[e.Door], api.ErrBusy}, {s.Doors[e.Door], api.ErrDouble}}
	case api.CareShut:
		return []row{{!s.Doors[e.Door], api.ErrState}}
	case api.CareAlarm:
		return []row{{s.Alarm, api.ErrDouble}}
	}
	return []row{{!s.Alarm, api.ErrNone}, {unguarded(s), api.ErrOpen}}
}

// behind is the state behind an event that is accepted.
func behind(s api.CareState, e api.CareEvent) api.CareState {
	s = copied(s)
	switch e.Kind {
	case api.CareGo:
		s.Moving = true
	case api.CareStop:
		s.Moving, s.Place = false, e.Place
	case api.CareGate, api.CareBar:
		s.Gates[e.Door] = e.Kind == api.CareGate
	case api.CareOpen, api.CareShut:
		s.Doors[e.Door] = e.Kind == api.CareOpen
	case api.CareAlarm, api.CareCalm:
		s.Alarm = e.Kind == api.CareAlarm
	}
	return s
}

// allEvents are those that fit some doors, of stops the one at a place, ascending.
func allEvents(doors, place int) []api.CareEvent {
	var list []api.CareEvent
	for kind := range api.CareKinds {
		switch kind {
		case api.CareGo, api.CareAlarm, api.CareCalm:
			list = append(list, event(kind))
		case api.CareStop:
			list = append(list, stopAt(place))
		default:
			for door := range doors {
				list = append(list, eventOfDoor(kind, door))
			}
		}
	}
	return list
}

// rightPlaces are places at which a train of the examples' doors is, or is just not, in place.
func rightPlaces() []int {
	return []int{4899, 4900, 5000, 5100, 5101}
}

// P9.2, example 1.
func TestExampleOfEvents(t *testing.T) {
	s, e := care.Begin(doors(), 5000)
	isState(t, s, e, api.CareState{Place: 5000, Gates: []bool{false, false}, Doors: []bool{false, false}})
	for _, x := range []struct {
		text string
		want api.Errno
	}{
		{"gate 0", api.OK}, {"open 0", api.OK}, {"go", api.ErrOpen}, {"open 1", api.ErrBusy}, {"shut 0", api.OK}, {"bar 0", api.OK}, {"go", api.OK},
		{"stop 5200", api.OK}, {"gate 0", api.ErrOrder}, {"alarm", api.OK}, {"open 0", api.OK}, {"calm", api.ErrOpen},
	} {
		told, e := care.ParseEvent(x.text)
		if e != api.OK {
			t.Error(x.text, e)
		}
		next, e := care.Apply(doors(), s, told)
		if e != x.want {
			t.Error(x.text, next, e, x.want)
		}
		if e == api.OK {
			s = next
		}
	}
	isState(t, s, api.OK, api.CareState{Alarm: true, Place: 5200, Gates: []bool{false, false}, Doors: []bool{true, false}})
}

// P9.1: doors and places at the limits.
func TestBegin(t *testing.T) {
	for _, count := range []int{1, 6} {
		for _, target := range []int{0, 1000000000} {
			for _, slack := range []int{0, 5000} {
				for _, place := range []int{0, 1000000000} {
					r := api.CareDoors{Doors: count, Target: target, Slack: slack}
					if e := care.CheckDoors(r); e != api.OK {
						t.Error(r, e)
					}
					s, e := care.Begin(r, place)
					isState(t, s, e, api.CareState{Place: place, Gates: make([]bool, count), Doors: make([]bool, count)})
					if e := care.CheckState(r, s); e != api.OK {
						t.Error(r, s, e)
					}
				}
			}
		}
	}
}

// P9.1: which states are right, and what is wrong with the others.
func TestCheckState(t *testing.T) {
	for _, s := range states(2, rightPlaces()...) {
		want := api.OK
		switch {
		case s.Moving && anyOpen(s):
			want = api.ErrOpen
		case slices.Contains(s.Gates, true) && !inPlace(doors(), s):
			want = api.ErrOrder
		case !s.Alarm && unguarded(s):
			want = api.ErrBusy
		}
		if e := care.CheckState(doors(), s); e != want {
			t.Error(s, e, want)
		}
	}
}

// P9.2: each event in each state, by the chapter's table.
func TestApply(t *testing.T) {
	for _, s := range rightStates(doors(), rightPlaces()...) {
		for _, x := range allEvents(2, 5100) {
			want := api.OK
			list := rows(doors(), s, x)
			if i := slices.IndexFunc(list, func(r row) bool { return r.holds }); i >= 0 {
				want = list[i].err
			}
			got, e := care.Apply(doors(), s, x)
			if want != api.OK {
				refused(t, care.FormatEvent(x), got, e, want)
			} else {
				isState(t, got, e, behind(s, x))
			}
		}
	}
}

// P9.2: without slack a train is in place at its target alone, and with the greatest one as far away.
func TestSlack(t *testing.T) {
	for _, x := range []struct {
		slack, place int
		want         api.Errno
	}{
		{0, 5000, api.OK}, {0, 5001, api.ErrOrder}, {0, 4999, api.ErrOrder},
		{5000, 0, api.OK}, {5000, 10000, api.OK}, {5000, 10001, api.ErrOrder}, {4999, 0, api.ErrOrder}, {5000, 1000000000, api.ErrOrder},
	} {
		r := api.CareDoors{Doors: 1, Target: 5000, Slack: x.slack}
		s, e := care.Begin(r, x.place)
		if e != api.OK {
			t.Error(x, e)
		}
		if _, e := care.Apply(r, s, eventOfDoor(api.CareGate, 0)); e != x.want {
			t.Error(x, e)
		}
	}
}

// P9.2: Replay applies one event after the other; P9.8: the state behind them is right.
func TestReplay(t *testing.T) {
	r := rand.New(rand.NewSource(1))
	for range 2000 {
		d := api.CareDoors{Doors: 1 + r.Intn(3), Target: 300, Slack: 10}
		place := one(r, 289, 290, 300, 310, 311)
		s, e := care.Begin(d, place)
		var list []api.CareEvent
		for e == api.OK && len(list) < 100 {
			x := one(r, allEvents(d.Doors, one(r, 289, 290, 310, 311))...)
			next, refusal := care.Apply(d, s, x)
			if refusal != api.OK && r.Intn(60) > 0 {
				continue
			}
			list = append(list, x)
			s, e = next, refusal
			if e == api.OK {
				isRight(t, d, s)
			}
		}
		got, number, f := care.Replay(d, place, list)
		switch {
		case f != e, e == api.OK && number != 0, e != api.OK && (number != len(list)-1 || !isZero(got)):
			t.Error(d, place, list, got, number, f, e)
		case e == api.OK && !reflect.DeepEqual(got, s):
			t.Error(d, place, list, got, s)
		}
	}
}

// isRight fails if something is open that must not be (P9.8).
func isRight(t *testing.T, r api.CareDoors, s api.CareState) {
	t.Helper()
	switch {
	case care.CheckState(r, s) != api.OK, s.Moving && anyOpen(s), slices.Contains(s.Gates, true) && !inPlace(r, s), !s.Alarm && unguarded(s):
		t.Error(r, s)
	}
}

// P9.2: none and the most events.
func TestLengthOfReplay(t *testing.T) {
	s, number, e := care.Replay(doors(), 4000, nil)
	isState(t, s, e, shut(4000))
	is(t, number, e, 0)
	list := slices.Repeat([]api.CareEvent{event(api.CareAlarm), event(api.CareCalm)}, 50)
	s, number, e = care.Replay(doors(), 4000, list)
	isState(t, s, e, shut(4000))
	is(t, number, e, 0)
	list[99] = event(api.CareAlarm)
	s, number, e = care.Replay(doors(), 4000, list)
	if !isZero(s) || number != 99 || e != api.ErrDouble {
		t.Error(s, number, e)
	}
	s, number, e = care.Replay(doors(), 4000, append(list, event(api.CareAlarm)))
	if !isZero(s) || number != 0 || e != api.ErrLarge {
		t.Error(s, number, e)
	}
}

// P9.2, example 2.
func TestExampleOfPossible(t *testing.T) {
	l, e := care.Possible(doors(), shut(5000), 77)
	isList(t, l, e, event(api.CareGo), eventOfDoor(api.CareGate, 0), eventOfDoor(api.CareGate, 1), event(api.CareAlarm))
	moving := shut(5000)
	moving.Moving = true
	l, e = care.Possible(doors(), moving, 77)
	isList(t, l, e, stopAt(77), event(api.CareAlarm))
}

// P9.9: each event that is possible is accepted, and no other one; P9.8: each leads to a right state.
func TestPossible(t *testing.T) {
	r := api.CareDoors{Doors: 3, Target: 50, Slack: 20}
	for _, place := range []int{0, 30, 1000000000} {
		for _, s := range rightStates(r, 29, 30, 70, 71) {
			var want []api.CareEvent
			for _, x := range allEvents(3, place) {
				next, e := care.Apply(r, s, x)
				if e == api.OK {
					want = append(want, x)
					isRight(t, r, next)
				}
			}
			l, e := care.Possible(r, s, place)
			isList(t, l, e, want...)
		}
	}
}

// What the chapter says more exactly: in an alarm doors open wherever the train stands, gates only in place; trains go and stop
// in an alarm, and an alarm is given while they move.
func TestAlarms(t *testing.T) {
	far, near := shut(7000), shut(5100)
	far.Alarm, near.Alarm = true, true
	s, e := care.Apply(doors(), far, eventOfDoor(api.CareOpen, 1))
	isState(t, s, e, api.CareState{Alarm: true, Place: 7000, Gates: []bool{false, false}, Doors: []bool{false, true}})
	s, e = care.Apply(doors(), far, eventOfDoor(api.CareGate, 1))
	refused(t, "gate out of place", s, e, api.ErrOrder)
	s, e = care.Apply(doors(), near, eventOfDoor(api.CareGate, 1))
	isState(t, s, e, api.CareState{Alarm: true, Place: 5100, Gates: []bool{false, true}, Doors: []bool{false, false}})
	s, number, e := care.Replay(doors(), 7000, []api.CareEvent{event(api.CareGo), event(api.CareAlarm), stopAt(5000), event(api.CareGo), stopAt(4900)})
	isState(t, s, e, api.CareState{Alarm: true, Place: 4900, Gates: []bool{false, false}, Doors: []bool{false, false}})
	is(t, number, e, 0)
}
