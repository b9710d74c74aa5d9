package lock

import "guideway/api"

// TelegramOf returns the telegram of an event, with a counter.
func TelegramOf(e api.LockEvent, counter int) (api.LockTelegram, api.Errno) {
	t := api.LockTelegram{e.Kind, e.A, e.B, counter}
	switch {
	case !isKind(e.Kind):
		return api.LockTelegram{}, api.ErrKind
	case !isCounted(t):
		return api.LockTelegram{}, api.ErrRange
	}
	t[4] = checkOf(t)
	return t, api.OK
}

// EventOf returns the event of a telegram, and its counter.
func EventOf(t api.LockTelegram) (api.LockEvent, int, api.Errno) {
	switch {
	case !isCounted(t):
		return api.LockEvent{}, 0, api.ErrRange
	case t[4] != checkOf(t):
		return api.LockEvent{}, 0, api.ErrSum
	case !isKind(t[0]):
		return api.LockEvent{}, 0, api.ErrKind
	}
	return api.LockEvent{Kind: t[0], A: t[1], B: t[2]}, t[3], api.OK
}

// Vote returns the telegram that counts of three.
func Vote(l [3]api.LockTelegram) (api.LockTelegram, api.Errno) {
	for i, t := range l {
		_, _, err := EventOf(t)
		if err == api.OK && (t == l[(i+1)%3] || t == l[(i+2)%3]) {
			return t, api.OK
		}
	}
	return api.LockTelegram{}, api.ErrNone
}

// Receive returns the state behind three telegrams.
func Receive(p api.LockPlant, x api.LockState, l [3]api.LockTelegram) (api.LockState, api.Errno) {
	if err := CheckState(p, x); err != api.OK {
		return api.LockState{}, err
	}
	t, err := Vote(l)
	if err != api.OK {
		return api.LockState{}, err
	}
	e, counter, _ := EventOf(t) // what counts is right
	if counter != x.Counter {
		return api.LockState{}, api.ErrOrder
	}
	next, err := Apply(p, x, e)
	if err != api.OK {
		return api.LockState{}, err
	}
	next.Counter = (counter + 1) % api.LockPrime
	return next, api.OK
}

// isCounted returns whether all numbers of a telegram are those that a counter may have.
func isCounted(t api.LockTelegram) bool {
	for _, number := range t {
		if !within(number, 0, mostCounted) {
			return false
		}
	}
	return true
}

// checkOf returns the check of a telegram, whatever stands there.
func checkOf(t api.LockTelegram) int {
	sum := 0
	for i, number := range t[:4] {
		sum += (i + 1) * (number + 1)
	}
	return sum % api.LockPrime
}
