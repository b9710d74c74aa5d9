package stator

import "guideway/api"

// PowerOf returns the power of voltages and currents of three phases.
func PowerOf(voltage, current [3]int) (int, api.Errno) {
	if err := checkElectric(voltage, current); err != api.OK {
		return 0, err
	}
	return sumOfProducts(voltage, current), api.OK
}

// BookOf returns the book of steps.
func BookOf(l []api.StatorStep) (api.StatorBook, api.Errno) {
	if len(l) > api.MaxStatorRows {
		return api.StatorBook{}, api.ErrLarge
	}
	var book api.StatorBook
	for _, step := range l {
		if err := checkElectric(step.Voltage, step.Current); err != api.OK {
			return api.StatorBook{}, err
		}
		if !within(step.Ohm, 0, api.MaxStatorOhm) {
			return api.StatorBook{}, api.ErrRange
		}
		book.Fed += sumOfProducts(step.Voltage, step.Current)
		book.Lost += step.Ohm * sumOfProducts(step.Current, step.Current)
	}
	book.Given = book.Fed - book.Lost
	return book, api.OK
}

// checkElectric returns the error of the phases of voltages and currents.
func checkElectric(voltage, current [3]int) api.Errno {
	if err := checkSizes(api.MaxStatorPart, voltage[:]...); err != api.OK {
		return err
	}
	return checkSizes(api.MaxStatorPart, current[:]...)
}

func sumOfProducts(x, other [3]int) int {
	sum := 0
	for phase, number := range x {
		sum += number * other[phase]
	}
	return sum
}
