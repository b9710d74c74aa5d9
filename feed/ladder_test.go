package feed_test

import (
	"math/big"
	"math/rand"
	"slices"
	"testing"

	"guideway/api"
	"guideway/feed"
)

// P7.7: small ladders.
func TestLadderOf(t *testing.T) {
	whole := func(nums ...int) []api.Frac {
		var list []api.Frac
		for _, num := range nums {
			list = append(list, api.Frac{Num: num, Den: 1})
		}
		return list
	}
	for _, c := range []struct {
		ohms, loads []int
		want        []api.Frac
	}{
		{[]int{1, 2, 3}, []int{6, 12}, whole(11, 5, -7)},
		{[]int{1, 1}, []int{2}, whole(1, -1)},
		{[]int{1, 1}, []int{1}, []api.Frac{{Num: 1, Den: 2}, {Num: -1, Den: 2}}},
		{[]int{1, 3}, []int{4}, whole(3, -1)},
		{[]int{2, 4}, []int{-1}, []api.Frac{{Num: -2, Den: 3}, {Num: 1, Den: 3}}},
		{[]int{1, 2, 3}, []int{0, 0}, whole(0, 0, 0)},
		{[]int{1, 2, 3}, []int{6, -6}, whole(2, -4, 2)},
		{[]int{500, 1}, []int{20000}, []api.Frac{{Num: 20000, Den: 501}, {Num: -10000000, Den: 501}}},
		{slices.Repeat([]int{500}, 9), slices.Repeat([]int{20000}, 8), whole(80000, 60000, 40000, 20000, 0, -20000, -40000, -60000, -80000)},
		{[]int{1, 500, 500, 500, 500, 500, 500, 500, 499}, slices.Repeat([]int{-20000}, 8), nil},
	} {
		l := api.FeedLadder{Ohms: c.ohms, Loads: c.loads}
		currents, e := feed.LadderOf(l)
		if c.want != nil {
			isList(t, currents, e, c.want...)
		}
		if !areCurrents(l, currents) {
			t.Error(l, currents)
		}
		refused(t, "CheckLadder", nil, feed.CheckLadder(l, currents), api.OK)
	}
}

// areCurrents tells whether currents are those of a ladder, by the definition, and in lowest terms.
func areCurrents(l api.FeedLadder, currents []api.Frac) bool {
	if len(currents) != len(l.Ohms) {
		return false
	}
	sum := new(big.Rat)
	for i, x := range currents {
		if x.Den <= 0 {
			return false
		}
		current := big.NewRat(int64(x.Num), int64(x.Den))
		if current.Num().Int64() != int64(x.Num) || current.Denom().Int64() != int64(x.Den) {
			return false
		}
		sum.Add(sum, new(big.Rat).Mul(current, big.NewRat(int64(l.Ohms[i]), 1)))
		if i == 0 {
			continue
		}
		ahead := big.NewRat(int64(currents[i-1].Num), int64(currents[i-1].Den))
		if ahead.Sub(ahead, current).Cmp(big.NewRat(int64(l.Loads[i-1]), 1)) != 0 {
			return false
		}
	}
	return sum.Sign() == 0
}

func randomLadder(r *rand.Rand) api.FeedLadder {
	l := api.FeedLadder{Ohms: []int{1 + r.Intn(one(r, 4, 500))}}
	for range 1 + r.Intn(8) {
		most := one(r, 3, 100, 20000)
		l.Ohms = append(l.Ohms, 1+r.Intn(one(r, 4, 500)))
		l.Loads = append(l.Loads, r.Intn(2*most+1)-most)
	}
	return l
}

// P7.7, P7.13: by the definition; CheckLadder accepts nothing else.
func TestLadders(t *testing.T) {
	r := rand.New(rand.NewSource(1))
	for range 1000 {
		l := randomLadder(r)
		currents, e := feed.LadderOf(l)
		if e != api.OK || !areCurrents(l, currents) {
			t.Error(l, currents, e)
		}
		refused(t, "CheckLadder", nil, feed.CheckLadder(l, currents), api.OK)
		for i := range currents {
			for _, more := range []int{-1, 1} {
				other := slices.Clone(currents)
				other[i].Num += more * other[i].Den
				refused(t, "one that is wrong", nil, feed.CheckLadder(l, other), api.ErrProof)
			}
		}
		// All differ by as much: then the loads are right, but not the sum.
		for i := range currents {
			currents[i].Num += currents[i].Den
		}
		refused(t, "all more", nil, feed.CheckLadder(l, currents), api.ErrProof)
	}
}

// ratOf is a current as a number.
func ratOf(x api.Frac) *big.Rat {
	return big.NewRat(int64(x.Num), int64(x.Den))
}

// P7.13: so many times greater loads, and two kinds of loads together.
func TestLaddersAreLinear(t *testing.T) {
	r := rand.New(rand.NewSource(2))
	for range 300 {
		a := randomLadder(r)
		b, both, times := a, a, a
		factor := r.Intn(11) - 5
		b.Loads, both.Loads, times.Loads = make([]int, len(a.Loads)), make([]int, len(a.Loads)), make([]int, len(a.Loads))
		for i := range a.Loads {
			a.Loads[i] /= 5
			b.Loads[i] = r.Intn(20001) - 10000
			both.Loads[i], times.Loads[i] = a.Loads[i]+b.Loads[i], factor*a.Loads[i]
		}
		ofA, _ := feed.LadderOf(a)
		ofB, _ := feed.LadderOf(b)
		ofBoth, e := feed.LadderOf(both)
		ofTimes, f := feed.LadderOf(times)
		if e != api.OK || f != api.OK {
			t.Fatal(a, b, factor, e, f)
		}
		for i := range a.Ohms {
			sum := ratOf(ofA[i])
			product := new(big.Rat).Mul(sum, big.NewRat(int64(factor), 1))
			if sum.Add(sum, ratOf(ofB[i])).Cmp(ratOf(ofBoth[i])) != 0 || product.Cmp(ratOf(ofTimes[i])) != 0 {
				t.Error(a, b, factor, ofA, ofB, ofBoth, ofTimes)
			}
		}
	}
}
