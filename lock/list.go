package lock

import "guideway/api"

// firstWrong looks at a list element by element, those ahead of each at hand, and returns the first error and its element.
func firstWrong[T any](list []T, errorOf func(earlier []T, x T) api.Errno) (int, api.Errno) {
	for i, x := range list {
		if err := errorOf(list[:i], x); err != api.OK {
			return i, err
		}
	}
	return 0, api.OK
}

// errorOfNumber returns what is wrong with the number of an element.
func errorOfNumber[T any](list []T, number int) api.Errno {
	if !within(number, 0, len(list)-1) {
		return api.ErrMissing
	}
	return api.OK
}

// numbersOf returns the numbers of all elements of which something holds.
func numbersOf[T any](list []T, holds func(T) bool) []int {
	var numbers []int
	for i, x := range list {
		if holds(x) {
			numbers = append(numbers, i)
		}
	}
	return numbers
}

// written returns the words for all elements.
func written[T any](list []T, wordOf func(T) string) []string {
	words := make([]string, len(list))
	for i, x := range list {
		words[i] = wordOf(x)
	}
	return words
}

// read returns what all words tell, or false if one of them is not right.
func read[T any](words []string, valueOf func(string) (T, bool)) ([]T, bool) {
	list := make([]T, len(words))
	for i, word := range words {
		x, ok := valueOf(word)
		if !ok {
			return nil, false
		}
		list[i] = x
	}
	return list, true
}
