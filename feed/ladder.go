package feed

import (
	"slices"

	"guideway/api"
)

// LadderOf returns the currents of a ladder.
func LadderOf(l api.FeedLadder) ([]api.Frac, api.Errno) {
	if err := errorOfLadder(l); err != api.OK {
		return nil, err
	}
	return currentsOf(l), api.OK
}

// CheckLadder accepts the currents of a ladder.
func CheckLadder(l api.FeedLadder, currents []api.Frac) api.Errno {
	if err := errorOfLadder(l); err != api.OK {
		return err
	}
	if len(currents) != len(l.Ohms) {
		return api.ErrShape
	}
	_, err := firstWrong(currents, func(_ []api.Frac, current api.Frac) api.Errno { return errorOfFraction(current) })
	// In lowest terms each number is told in one way alone, so that currents that are equal are alike.
	if err == api.OK && !slices.Equal(currents, currentsOf(l)) {
		err = api.ErrProof
	}
	return err
}

func errorOfLadder(l api.FeedLadder) api.Errno {
	switch {
	case len(l.Loads) == 0, len(l.Ohms) != len(l.Loads)+1:
		return api.ErrShape
	case len(l.Loads) > api.MaxFeedLadder:
		return api.ErrLarge
	case slices.ContainsFunc(l.Ohms, func(ohms int) bool { return !within(ohms, 1, api.MaxFeedOhms) }),
		slices.ContainsFunc(l.Loads, func(load int) bool { return exceeds(load, api.MaxFeedPower) }):
		return api.ErrRange
	}
	return api.OK
}

func errorOfFraction(x api.Frac) api.Errno {
	switch {
	case x.Den <= 0, divisor(x.Num, x.Den) != 1:
		return api.ErrForm
	case exceeds(x.Num, api.MaxPart), x.Den > api.MaxPart:
		return api.ErrRange
	}
	return api.OK
}

// currentsOf returns the currents of a ladder that is right.
func currentsOf(l api.FeedLadder) []api.Frac {
	whole := 0
	for _, ohms := range l.Ohms {
		whole += ohms
	}
	// From the left comes that part of each load which the resistance behind it is of the whole.
	behind, current := whole, 0
	for i, load := range l.Loads {
		behind -= l.Ohms[i]
		current += load * behind
	}
	currents := []api.Frac{fraction(current, whole)}
	for _, load := range l.Loads {
		current -= load * whole
		currents = append(currents, fraction(current, whole))
	}
	return currents
}

// fraction returns a fraction in lowest terms; den is above 0.
func fraction(num, den int) api.Frac {
	common := divisor(num, den)
	return api.Frac{Num: num / common, Den: den / common}
}

// divisor returns the greatest common divisor of a fraction's parts; den is above 0.
func divisor(num, den int) int {
	num %= den // now each number has a size, also the least int
	num = max(num, -num)
	for num != 0 {
		num, den = den%num, num
	}
	return den
}
