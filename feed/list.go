package feed

import (
	"slices"

	"guideway/api"
)

// firstWrong looks at a list element by element, those ahead of each at hand, and returns the first error and its element.
func firstWrong[T any](list []T, errorOf func(earlier []T, x T) api.Errno) (int, api.Errno) {
	for i, x := range list {
		if err := errorOf(list[:i], x); err != api.OK {
			return i, err
		}
	}
	return 0, api.OK
}

// firstOf returns the first error that is one.
func firstOf(errs []api.Errno) api.Errno {
	for _, err := range errs {
		if err != api.OK {
			return err
		}
	}
	return api.OK
}

// errorOfNumber returns what is wrong with the number of an element.
func errorOfNumber[T any](list []T, number int) api.Errno {
	if !within(number, 0, len(list)-1) {
		return api.ErrMissing
	}
	return api.OK
}

// errorOfTick returns what is wrong with a tick that is asked for.
func errorOfTick(tick int) api.Errno {
	if !within(tick, 0, lastTick) {
		return api.ErrRange
	}
	return api.OK
}

// errorOfTicks returns what is wrong with a range of ticks.
func errorOfTicks(ticks api.Range) api.Errno {
	err := firstOf([]api.Errno{errorOfTick(ticks.Lo), errorOfTick(ticks.Hi)})
	if err == api.OK && ticks.Lo > ticks.Hi {
		err = api.ErrOrder
	}
	return err
}

// numberOf returns the number of the train of a name, or one below 0.
func numberOf(trains []api.FeedTrain, name string) int {
	return slices.IndexFunc(trains, func(t api.FeedTrain) bool { return t.Name == name })
}

func within(x, lo, hi int) bool {
	return x >= lo && x <= hi
}

// exceeds tells whether a number is greater in size than most. (The least int has no size that is an int.)
func exceeds(x, most int) bool {
	return !within(x, -most, most)
}
