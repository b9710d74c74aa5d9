package locate

import "guideway/api"

// forward are the states behind each state, one step forward.
var forward = [4]int{1, 3, 0, 2}

// Counted returns the sum of the steps of some states, and how often something was skipped.
func Counted(states []int) (api.LocateSteps, api.Errno) {
	if len(states) > api.MaxLocateStates {
		return api.LocateSteps{}, api.ErrLarge
	}
	for _, state := range states {
		if !within(state, 0, len(forward)-1) {
			return api.LocateSteps{}, api.ErrRange
		}
	}
	var sum api.LocateSteps
	for i := 1; i < len(states); i++ {
		before, state := states[i-1], states[i]
		switch {
		case state == forward[before]:
			sum.Steps++
		case before == forward[state]:
			sum.Steps--
		case before != state:
			sum.Skips++
		}
	}
	return sum, api.OK
}

// Joined returns the remainder of all numbers that have some remainders.
func Joined(l []api.LocateRest) (api.LocateRest, api.Errno) {
	if err := checkRests(l); err != api.OK {
		return api.LocateRest{}, err
	}
	multiple := 1 // it is an int, as the moduli are few and small
	for _, rest := range l {
		multiple = leastMultiple(multiple, rest.Modulus)
	}
	if multiple > api.MaxPart {
		return api.LocateRest{}, api.ErrLarge
	}
	joined := api.LocateRest{Modulus: 1}
	for _, rest := range l {
		both, isAny := joinedBoth(joined, rest)
		if !isAny {
			return api.LocateRest{}, api.ErrNone
		}
		joined = both
	}
	return joined, api.OK
}

func checkRests(l []api.LocateRest) api.Errno {
	switch {
	case len(l) == 0:
		return api.ErrShape
	case len(l) > api.MaxLocateRests:
		return api.ErrLarge
	}
	for _, rest := range l {
		if !within(rest.Modulus, 1, api.MaxLocateModulus) || !within(rest.Rest, 0, rest.Modulus-1) {
			return api.ErrRange
		}
	}
	return api.OK
}

// joinedBoth returns the remainder of all numbers that have two remainders, and whether there are any.
func joinedBoth(a, b api.LocateRest) (api.LocateRest, bool) {
	multiple := leastMultiple(a.Modulus, b.Modulus)
	for number := a.Rest; number < multiple; number += a.Modulus {
		if number%b.Modulus == b.Rest {
			return api.LocateRest{Modulus: multiple, Rest: number}, true
		}
	}
	return api.LocateRest{}, false
}
