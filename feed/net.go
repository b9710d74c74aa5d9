package feed

import (
	"slices"

	"guideway/api"
)

// CheckNet returns the first error of a net, and the element that has it.
func CheckNet(n api.FeedNet) (api.FeedMark, api.Errno) {
	if err := errorOfSizes(n); err != api.OK {
		return api.FeedMark{}, err
	}
	if i, err := firstWrong(n.Stations, errorOfStation); err != api.OK {
		return api.FeedMark{List: api.FeedStations, Number: i}, err
	}
	errorOfOneSection := func(_ []api.FeedSection, s api.FeedSection) api.Errno { return errorOfSection(n, s) }
	if i, err := firstWrong(n.Sections, errorOfOneSection); err != api.OK {
		return api.FeedMark{List: api.FeedSections, Number: i}, err
	}
	errorOfOneTrain := func(earlier []api.FeedTrain, t api.FeedTrain) api.Errno { return errorOfTrain(n, earlier, t) }
	if i, err := firstWrong(n.Trains, errorOfOneTrain); err != api.OK {
		return api.FeedMark{List: api.FeedTrains, Number: i}, err
	}
	return api.FeedMark{}, api.OK
}

func errorOfSizes(n api.FeedNet) api.Errno {
	switch {
	case len(n.Stations) == 0, len(n.Sections) == 0:
		return api.ErrShape
	case len(n.Stations) > api.MaxFeedStations,
		len(n.Sections) > api.MaxFeedSections,
		len(n.Trains) > api.MaxFeedTrains:
		return api.ErrLarge
	}
	return api.OK
}

func errorOfStation(earlier []api.FeedStation, s api.FeedStation) api.Errno {
	switch {
	case !isName(s.Name):
		return api.ErrName
	case slices.ContainsFunc(earlier, func(other api.FeedStation) bool { return other.Name == s.Name }):
		return api.ErrExists
	case !within(s.Limit, 0, api.MaxFeedLimit):
		return api.ErrRange
	}
	return api.OK
}

// errorOfSection returns the error of a section of a net whose substations are right.
func errorOfSection(n api.FeedNet, s api.FeedSection) api.Errno {
	switch {
	case !isEnd(n, s.Left), !isEnd(n, s.Right):
		return api.ErrMissing
	case isOpen(s):
		return api.ErrOpen
	case s.Left == s.Right:
		return api.ErrDouble
	case !within(s.Share, 0, api.FeedWhole), !within(s.Loss, 0, api.MaxFeedLoss):
		return api.ErrRange
	case s.Left == api.FeedNone && s.Share != 0, s.Right == api.FeedNone && s.Share != api.FeedWhole:
		return api.ErrForm
	}
	return api.OK
}

// isEnd tells whether a section may have this number as that of the substation at an end.
func isEnd(n api.FeedNet, number int) bool {
	return number == api.FeedNone || errorOfNumber(n.Stations, number) == api.OK
}

// isOpen tells whether a section has no substation.
func isOpen(s api.FeedSection) bool {
	return s.Left == api.FeedNone && s.Right == api.FeedNone
}

// errorOfTrain returns the error of a train of a net whose sections are right.
func errorOfTrain(n api.FeedNet, earlier []api.FeedTrain, t api.FeedTrain) api.Errno {
	switch {
	case !isName(t.Name):
		return api.ErrName
	case numberOf(earlier, t.Name) >= 0:
		return api.ErrExists
	case !within(t.Earliest, 0, api.MaxFeedTick), !within(t.Latest, 0, api.MaxFeedTick):
		return api.ErrRange
	case t.Earliest > t.Latest:
		return api.ErrOrder
	case len(t.Steps) == 0:
		return api.ErrShape
	case len(t.Steps) > api.MaxFeedSteps:
		return api.ErrLarge
	}
	_, err := firstWrong(t.Steps, func(_ []api.FeedStep, step api.FeedStep) api.Errno {
		err := errorOfNumber(n.Sections, step.Section)
		if err == api.OK && exceeds(step.Power, api.MaxFeedPower) {
			err = api.ErrRange
		}
		return err
	})
	return err
}

// CheckDepartures returns the first error of a net and of departures, and the number of the departure that has it.
func CheckDepartures(n api.FeedNet, l []api.FeedDeparture) (int, api.Errno) {
	if _, err := CheckNet(n); err != api.OK {
		return 0, err
	}
	if len(l) > api.MaxFeedTrains {
		return 0, api.ErrLarge
	}
	return firstWrong(l, func(earlier []api.FeedDeparture, d api.FeedDeparture) api.Errno {
		switch {
		case numberOf(n.Trains, d.Train) < 0:
			return api.ErrMissing
		case slices.ContainsFunc(earlier, func(other api.FeedDeparture) bool { return other.Train == d.Train }):
			return api.ErrDouble
		case !within(d.At, 0, api.MaxFeedTick):
			return api.ErrRange
		}
		return api.OK
	})
}
