package care_test

import (
	"math/rand"
	"slices"
	"testing"

	"guideway/api"
	"guideway/care"
)

// parts is into how many parts a millimetre is divided where all places are tried.
const parts = 6

// randomRescue has a short line and at most so many depots.
func randomRescue(r *rand.Rand, depots int) api.CareRescue {
	x := api.CareRescue{Length: r.Intn(21)}
	for range 1 + r.Intn(depots) {
		x.Depots = append(x.Depots, api.CareDepot{Place: r.Intn(x.Length + 1), Late: r.Intn(12)})
	}
	return x
}

// reached is the length behind which a place is reached from the depot that comes there first, all told in parts.
func reached(x api.CareRescue, depots []int, place int) int {
	least := 1 << 60
	for _, i := range depots {
		d := x.Depots[i]
		least = min(least, parts*d.Late+max(place-parts*d.Place, parts*d.Place-place))
	}
	return least
}

// worst is the first place of those that are reached last, and the length behind which it is, by trying all of them.
func worst(x api.CareRescue, depots []int) (int, int) {
	place, most := 0, -1
	for p := 0; p <= parts*x.Length; p++ {
		if behind := reached(x, depots, p); behind > most {
			place, most = p, behind
		}
	}
	return place, most
}

// P9.6, example 6.
func TestExampleOfRescue(t *testing.T) {
	for _, x := range []struct {
		depots []int
		want   [2]int
	}{
		{[]int{0, 1}, [2]int{1100, 1100}}, {[]int{0, 1, 2}, [2]int{1500, 700}}, {[]int{2}, [2]int{2000, 1200}}, {[]int{0}, [2]int{2000, 2000}}, {[]int{1}, [2]int{0, 2200}}, {[]int{1, 2}, [2]int{0, 800}},
	} {
		p, e := care.WorstPlace(rescue(), x.depots)
		is(t, p, e, x.want)
	}
	l, e := care.FewestDepots(rescue(), 400)
	isList(t, l, e, 1, 2)
	l, e = care.FewestDepots(rescue(), 350)
	isList(t, l, e, 0, 1, 2)
	l, e = care.FewestDepots(rescue(), 349)
	refused(t, "none", l, e, api.ErrNone)
}

// P9.6: the worst place of all sets of depots, by trying places between whole numbers, too; P9.13: with more depots no place is
// reached later.
func TestWorstPlace(t *testing.T) {
	r := rand.New(rand.NewSource(10))
	for range 200 {
		x := randomRescue(r, 4)
		for _, set := range sets(len(x.Depots))[1:] {
			place, behind := worst(x, set)
			p, e := care.WorstPlace(x, set)
			is(t, p, e, [2]int{place * 2 / parts, behind * 2 / parts})
			for i := range x.Depots {
				more := append(slices.Clone(set), i)
				slices.Sort(more)
				q, e := care.WorstPlace(x, slices.Compact(more))
				if e != api.OK || q[1] > p[1] {
					t.Error(x, set, i, p, q, e)
				}
			}
		}
	}
}

// P9.6: the least set of depots that do, by trying all; P9.13: from it each place is reached behind at most so much.
func TestFewestDepots(t *testing.T) {
	r := rand.New(rand.NewSource(11))
	for range 150 {
		x := randomRescue(r, 5)
		for within := range 34 {
			all := sets(len(x.Depots))[1:]
			i := slices.IndexFunc(all, func(set []int) bool {
				_, behind := worst(x, set)
				return behind <= parts*within
			})
			l, e := care.FewestDepots(x, within)
			if i < 0 {
				refused(t, "none", l, e, api.ErrNone)
			} else {
				isList(t, l, e, all[i]...)
			}
		}
	}
}

// P9.6: a line of one place, places between whole numbers, and the limits.
func TestLimitsOfRescue(t *testing.T) {
	long := api.CareRescue{Length: 1000000000, Depots: []api.CareDepot{{Place: 1000000000, Late: 1000000000}, {Late: 1000000000}, {Place: 999999999}}}
	for _, x := range []struct {
		rescue api.CareRescue
		depots []int
		want   [2]int
	}{
		{api.CareRescue{Depots: []api.CareDepot{{}}}, []int{0}, [2]int{0, 0}},
		{api.CareRescue{Depots: []api.CareDepot{{Late: 5}, {Late: 3}}}, []int{0, 1}, [2]int{0, 6}},
		{api.CareRescue{Length: 1, Depots: []api.CareDepot{{}, {Place: 1}}}, []int{0, 1}, [2]int{1, 1}},
		{api.CareRescue{Length: 3, Depots: []api.CareDepot{{Place: 2}, {Place: 1}}}, []int{0, 1}, [2]int{0, 2}},
		{api.CareRescue{Length: 4, Depots: []api.CareDepot{{Place: 2}}}, []int{0}, [2]int{0, 4}},
		{long, []int{0}, [2]int{0, 4000000000}}, {long, []int{1}, [2]int{2000000000, 4000000000}}, {long, []int{0, 1}, [2]int{1000000000, 3000000000}},
		{long, []int{1, 2}, [2]int{0, 1999999998}}, {long, []int{0, 1, 2}, [2]int{0, 1999999998}},
	} {
		p, e := care.WorstPlace(x.rescue, x.depots)
		is(t, p, e, x.want)
	}
	l, e := care.FewestDepots(long, 1000000000)
	isList(t, l, e, 2)
	l, e = care.FewestDepots(long, 999999998)
	refused(t, "none", l, e, api.ErrNone)
	l, e = care.FewestDepots(api.CareRescue{Depots: []api.CareDepot{{Late: 1}, {}, {}}}, 0)
	isList(t, l, e, 1)
	eight := api.CareRescue{Length: 70, Depots: make([]api.CareDepot, 8)}
	for i := range eight.Depots {
		eight.Depots[i].Place = 10 * i
	}
	l, e = care.FewestDepots(eight, 5)
	isList(t, l, e, 0, 1, 2, 3, 4, 5, 6, 7)
	l, e = care.FewestDepots(eight, 10)
	isList(t, l, e, 0, 2, 4, 6)
}
