package timetable

import "guideway/api"

// firstWrong looks at a list element by element, those ahead of each at hand, and returns the first error and its element.
func firstWrong[T any](list []T, errorOf func(earlier []T, x T) api.Errno) (int, api.Errno) {
	for i, x := range list {
		if err := errorOf(list[:i], x); err != api.OK {
			return i, err
		}
	}
	return 0, api.OK
}

// firstOf returns the first error that is one.
func firstOf(errs []api.Errno) api.Errno {
	for _, err := range errs {
		if err != api.OK {
			return err
		}
	}
	return api.OK
}

// errorOfNumber returns what is wrong with the number of an element.
func errorOfNumber[T any](list []T, number int) api.Errno {
	if !within(number, 0, len(list)-1) {
		return api.ErrMissing
	}
	return api.OK
}

// numbersBelow returns all numbers from 0 on, and below one, of which something holds.
func numbersBelow(count int, holds func(int) bool) []int {
	var numbers []int
	for i := range count {
		if holds(i) {
			numbers = append(numbers, i)
		}
	}
	return numbers
}

func within(x, lo, hi int) bool {
	return x >= lo && x <= hi
}
