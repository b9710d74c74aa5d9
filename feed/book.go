package feed

import "guideway/api"

// BookOf returns the books of some ticks.
func BookOf(n api.FeedNet, l []api.FeedDeparture, ticks api.Range) (api.FeedBook, api.Errno) {
	c, err := check(n, l, errorOfTicks(ticks))
	if err != api.OK {
		return api.FeedBook{}, err
	}
	var book api.FeedBook
	for tick := ticks.Lo; tick <= ticks.Hi; tick++ {
		book = sumOf(book, sumOf(c.trainsBook(tick), c.stationsBook(tick)))
	}
	return book, api.OK
}

// Added returns the sums of books.
func Added(a, b api.FeedBook) (api.FeedBook, api.Errno) {
	if exceedsBook(a) || exceedsBook(b) {
		return api.FeedBook{}, api.ErrRange
	}
	sum := sumOf(a, b)
	if exceedsBook(sum) {
		return api.FeedBook{}, api.ErrLarge
	}
	return sum, api.OK
}

// trainsBook returns what trains use and give in a tick.
func (c checkedNet) trainsBook(tick int) api.FeedBook {
	var book api.FeedBook
	for _, r := range c.runs {
		step, _ := r.stepIn(tick)
		book.Used += max(step.Power, 0) * api.FeedParts
		book.Braked += max(-step.Power, 0) * api.FeedParts
	}
	return book
}

// stationsBook returns what substations feed and get back in a tick, and what is lost on the way.
func (c checkedNet) stationsBook(tick int) api.FeedBook {
	var book api.FeedBook
	for i, power := range c.powersIn(tick) {
		s := c.Sections[i]
		drawn := drawnFor(s, power)
		book.Lost += max(power, -power) * s.Loss * api.FeedWhole
		book.Fed += max(drawn, 0) * api.FeedWhole // all ends together feed the whole
		for station, told := range c.Stations {
			given := max(-drawn, 0) * partOf(s, station)
			if told.Takes {
				book.Back += given
			} else {
				book.Burned += given
			}
		}
	}
	return book
}

// numbersOf are the numbers of a book.
func numbersOf(b *api.FeedBook) [6]*int {
	return [...]*int{&b.Fed, &b.Used, &b.Braked, &b.Lost, &b.Back, &b.Burned}
}

func sumOf(a, b api.FeedBook) api.FeedBook {
	sums := numbersOf(&a)
	for i, number := range numbersOf(&b) {
		*sums[i] += *number
	}
	return a
}

// exceedsBook tells whether a number of a book is not one that books have.
func exceedsBook(b api.FeedBook) bool {
	for _, number := range numbersOf(&b) {
		if !within(*number, 0, api.MaxFeedBook) {
			return true
		}
	}
	return false
}
