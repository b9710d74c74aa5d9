package feed

import (
	"slices"

	"guideway/api"
)

// plan is a run of each train, in their order.
type plan struct {
	runs  []run
	delay int
}

// Accept returns departures with one more, if nothing is exceeded with it.
func Accept(n api.FeedNet, l []api.FeedDeparture, x api.FeedDeparture) ([]api.FeedDeparture, api.Errno) {
	if _, err := check(n, l); err != api.OK {
		return nil, err
	}
	all := slices.Concat(l, []api.FeedDeparture{x})
	c, err := check(n, all)
	if err != api.OK {
		return nil, err
	}
	last := c.runs[len(l)]
	switch {
	case !within(last.at, last.Earliest, last.Latest):
		return nil, api.ErrLate
	case c.isOver():
		return nil, api.ErrRefused
	}
	return all, api.OK
}

// BestPlan returns the plan of least delay, and its delay.
func BestPlan(n api.FeedNet) ([]api.FeedDeparture, int, api.Errno) {
	c, err := check(n, nil, errorOfChoice(n))
	if err != api.OK {
		return nil, 0, err
	}
	best := c.leastPlan(func(runs []run) bool { return !c.with(runs).isOver() })
	if best == nil {
		return nil, 0, api.ErrNone
	}
	return departuresOf(best.runs), best.delay, api.OK
}

// errorOfChoice returns what is wrong with a net if its plans are looked for.
func errorOfChoice(n api.FeedNet) api.Errno {
	isLarge := func(t api.FeedTrain) bool { return t.Latest-t.Earliest >= api.MaxFeedChoice }
	if len(n.Trains) > api.MaxFeedPlanned || slices.ContainsFunc(n.Trains, isLarge) {
		return api.ErrLarge
	}
	return api.OK
}

// leastPlan returns the plan of least delay of which what is asked holds, of several the first one, or nil. Plans from
// each departure of the first train are looked for at once; they are compared in order, whichever are found first.
func (c checkedNet) leastPlan(asked func([]run) bool) *plan {
	if len(c.Trains) == 0 {
		return c.goOn(nil, asked)
	}
	var answers []chan *plan
	for _, first := range runsOf(c.Trains[0]) {
		answer := make(chan *plan)
		go func() { answer <- c.goOn([]run{first}, asked) }()
		answers = append(answers, answer)
	}
	var best *plan
	for _, answer := range answers {
		best = lesser(best, <-answer)
	}
	return best
}

// goOn returns the least plan of those that begin with some runs, or nil.
func (c checkedNet) goOn(runs []run, asked func([]run) bool) *plan {
	if len(runs) == len(c.Trains) {
		if !asked(runs) {
			return nil
		}
		return &plan{runs, delayOf(runs)}
	}
	var best *plan
	for _, next := range runsOf(c.Trains[len(runs)]) {
		// There is no room behind the runs: a plan that is kept is not written into by the one that is looked at next.
		best = lesser(best, c.goOn(append(runs[:len(runs):len(runs)], next), asked))
	}
	return best
}

// lesser returns the plan of lesser delay, the first one if their delays are alike; nil is no plan.
func lesser(first, second *plan) *plan {
	if first == nil || second != nil && second.delay < first.delay {
		return second
	}
	return first
}

func delayOf(runs []run) int {
	delay := 0
	for _, r := range runs {
		delay += r.at - r.Earliest
	}
	return delay
}
