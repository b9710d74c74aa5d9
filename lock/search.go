package lock

import (
	"slices"
	"sync"

	"guideway/api"
)

// found is a state, and how it was found: behind another one (nil: the search began with it), by an event.
type found struct {
	state  api.LockState
	text   string
	behind *found
	event  api.LockEvent
}

// search looks at the states that can be reached from one; those that are known stand by their texts.
type search struct {
	checkedPlant
	first api.LockState
	known map[string]bool
}

// Reached returns how many states can be reached.
func Reached(p api.LockPlant) (int, api.Errno) {
	c, err := check(p)
	if err != api.OK {
		return 0, err
	}
	s := search{c, c.begin(), map[string]bool{}}
	for range s.levels {
		if len(s.known) > api.MaxLockStates {
			return 0, api.ErrLarge
		}
	}
	return len(s.known), api.OK
}

// Way returns a shortest list of events behind which a train stands on a section.
func Way(p api.LockPlant, x api.LockState, to [2]int) ([]api.LockEvent, api.Errno) {
	c, err := checkBoth(p, x, errorOfNumber(p.Trains, to[0]), errorOfNumber(p.Sections, to[1]))
	if err != api.OK {
		return nil, err
	}
	isThere := func(f *found) bool { return stands(f.state.Trains[to[0]], to[1]) }
	s := search{c, x, map[string]bool{}}
	for level := range s.levels {
		// A level is asked before all that is known is counted: the states at the end of a way need not be looked at.
		if i := slices.IndexFunc(level, isThere); i >= 0 {
			return level[i].way(), api.OK
		}
		if len(s.known) > api.MaxLockStates {
			return nil, api.ErrLarge
		}
	}
	return nil, api.ErrNone
}

// stands returns whether a train stands on a section.
func stands(t api.LockTrain, section int) bool {
	return slices.Contains(t.Chain[:t.Under], section)
}

// way returns the events from where the search began.
func (f *found) way() []api.LockEvent {
	var events []api.LockEvent
	for ; f.behind != nil; f = f.behind {
		events = append(events, f.event)
	}
	slices.Reverse(events)
	return events
}

// levels yields the states that can be reached by no event, then those by one event and by no fewer, and so on.
func (s search) levels(yield func([]*found) bool) {
	level := s.learn([]*found{{state: s.first, text: FormatState(s.first)}})
	for len(level) > 0 && yield(level) {
		level = s.learn(slices.Concat(s.behindAll(level)...))
	}
}

// learn returns those of some states that were not known; from now on they are.
func (s search) learn(list []*found) []*found {
	var learnt []*found
	for _, f := range list {
		if !s.known[f.text] {
			s.known[f.text] = true
			learnt = append(learnt, f)
		}
	}
	return learnt
}

// behindAll looks side by side at what is one event behind each of some states. Until all have done so nothing is learnt:
// what is known is only read by them, so that no one waits.
func (s search) behindAll(level []*found) [][]*found {
	lists := make([][]*found, len(level))
	var looking sync.WaitGroup
	for i, from := range level {
		looking.Add(1)
		go func() {
			defer looking.Done()
			lists[i] = s.behindOne(from)
		}()
	}
	looking.Wait()
	return lists
}

// behindOne returns what is one event behind a state and is not known; it may have the same state twice.
func (s search) behindOne(from *found) []*found {
	var list []*found
	for e := range s.events {
		state, err := s.behind(from.state, e)
		if err != api.OK {
			continue
		}
		if text := FormatState(state); !s.known[text] {
			list = append(list, &found{state, text, from, e})
		}
	}
	return list
}
