package care

import "guideway/api"

// firstWrong looks at a list element by element, those ahead of each at hand, and returns the first error and its element.
func firstWrong[T any](list []T, errorOf func(earlier []T, x T) api.Errno) (int, api.Errno) {
	for i, x := range list {
		if err := errorOf(list[:i], x); err != api.OK {
			return i, err
		}
	}
	return 0, api.OK
}

// errorOfNumber returns what is wrong with the number of one of so many elements.
func errorOfNumber(number, count int) api.Errno {
	if !within(number, 0, count-1) {
		return api.ErrMissing
	}
	return api.OK
}

// errorOfMember returns what is wrong with a member of a set of numbers of so many elements, behind the earlier members.
func errorOfMember(earlier []int, number, count int) api.Errno {
	if err := errorOfNumber(number, count); err != api.OK {
		return err
	}
	if len(earlier) > 0 && number <= earlier[len(earlier)-1] {
		return api.ErrOrder
	}
	return api.OK
}
