package care_test

import (
	"math/rand"
	"slices"
	"testing"

	"guideway/api"
	"guideway/care"
)

const out = api.CareOut

// randomRooms have at most so many rooms, people in each, and ways, which as many people may take at most as told.
func randomRooms(r *rand.Rand, rooms, people, ways, most int) api.CareRooms {
	var x api.CareRooms
	for range 1 + r.Intn(rooms) {
		x.People = append(x.People, r.Intn(people+1))
	}
	for range r.Intn(ways + 1) {
		w := api.CareWay{From: r.Intn(len(x.People)), To: r.Intn(len(x.People)+1) - 1, Most: 1 + r.Intn(most)}
		if w.From != w.To {
			x.Ways = append(x.Ways, w)
		}
	}
	return x
}

// crowd is how many people are in each of at most three rooms.
type crowd [3]int

// everyMove calls a function with each crowd that may be behind a tick: stay and come are those who have not taken one of the
// ways ahead of those told, and those who have.
func everyMove(ways []api.CareWay, stay, come crowd, f func(crowd)) {
	if len(ways) == 0 {
		for room := range stay {
			come[room] += stay[room]
		}
		f(come)
		return
	}
	w := ways[0]
	for people := range min(w.Most, stay[w.From]) + 1 {
		left, came := stay, come
		left[w.From] -= people
		if w.To != out {
			came[w.To] += people
		}
		everyMove(ways[1:], left, came, f)
	}
}

// mostOut is how many people can be out by each of so many ticks, by trying whoever goes where.
func mostOut(x api.CareRooms, ticks int) []int {
	var first crowd
	copy(first[:], x.People)
	all := first[0] + first[1] + first[2]
	reached := map[crowd]bool{first: true}
	most := []int{0}
	for range ticks {
		next := map[crowd]bool{}
		best := 0
		for c := range reached {
			everyMove(x.Ways, c, crowd{}, func(c crowd) {
				next[c] = true
				best = max(best, all-c[0]-c[1]-c[2])
			})
		}
		reached = next
		most = append(most, best)
	}
	return most
}

// boundOf is the bound of a cut, by the definition.
func boundOf(x api.CareRooms, times []int, ticks int) int {
	bound := 0
	for room, people := range x.People {
		if times[room] > 0 {
			bound += people
		}
	}
	for _, w := range x.Ways {
		for t := 0; t <= ticks-1; t++ {
			if t >= times[w.From] && (w.To == out || times[w.To] > t+1) {
				bound += w.Most
			}
		}
	}
	return bound
}

// P9.3, example 3.
func TestExampleOfRooms(t *testing.T) {
	for ticks, want := range []int{0, 3, 6, 9, 12, 15, 15, 15} {
		n, e := care.OutBy(rooms(), ticks)
		is(t, n, e, want)
	}
	n, e := care.LeastTime(rooms(), 20)
	is(t, n, e, 5)
	n, e = care.LeastTime(rooms(), 5)
	is(t, n, e, 5)
	n, e = care.LeastTime(rooms(), 4)
	refused(t, "late", n, e, api.ErrLate)
	n, e = care.CheckCut(rooms(), []int{0, 0}, 2)
	is(t, n, e, 6)
}

// P9.3: how many people are out by some ticks; P9.10: no more than the bound of any cut, and as many as that of one.
func TestOutBy(t *testing.T) {
	r := rand.New(rand.NewSource(3))
	for range 300 {
		x := randomRooms(r, 3, 3, 4, 2)
		most := mostOut(x, 4)
		for ticks, want := range most {
			n, e := care.OutBy(x, ticks)
			is(t, n, e, want)
			least := 1000
			eachList(len(x.People), 0, ticks, func(times []int) bool {
				bound, e := care.CheckCut(x, times, ticks)
				is(t, bound, e, boundOf(x, times, ticks))
				least = min(least, bound)
				return !t.Failed()
			})
			if least != want {
				t.Error(x, ticks, least, want)
			}
		}
		if t.Failed() {
			t.Fatal(x)
		}
	}
}

// P9.3, P9.10: BestCut's bound is just so many as are out; with more ticks, or more people passing, no fewer are.
func TestBestCut(t *testing.T) {
	r := rand.New(rand.NewSource(4))
	for range 300 {
		people := one(r, 3, 30, 10000)
		x := randomRooms(r, 6, people, 16, people)
		ticks := r.Intn(21)
		n, e := care.OutBy(x, ticks)
		if e != api.OK {
			t.Fatal(x, ticks, e)
		}
		cut, e := care.BestCut(x, ticks)
		if e != api.OK || len(cut) != len(x.People) {
			t.Fatal(x, ticks, cut, e)
		}
		bound, e := care.CheckCut(x, cut, ticks)
		is(t, bound, e, n)
		if ticks < 20 {
			more, e := care.OutBy(x, ticks+1)
			if e != api.OK || more < n {
				t.Error(x, ticks, n, more)
			}
		}
		if len(x.Ways) > 0 {
			x.Ways[r.Intn(len(x.Ways))].Most = 10000
			more, e := care.OutBy(x, ticks)
			if e != api.OK || more < n {
				t.Error(x, ticks, n, more)
			}
		}
	}
}

// P9.3: the least time is the first number of ticks by which all are out.
func TestLeastTime(t *testing.T) {
	r := rand.New(rand.NewSource(5))
	for range 200 {
		x := randomRooms(r, 4, 9, 8, 3)
		all := 0
		for _, people := range x.People {
			all += people
		}
		least := 21
		for ticks := 20; ticks >= 0; ticks-- {
			if n, _ := care.OutBy(x, ticks); n == all {
				least = ticks
			}
		}
		for most := range 21 {
			n, e := care.LeastTime(x, most)
			if most < least {
				refused(t, "late", n, e, api.ErrLate)
			} else {
				is(t, n, e, least)
			}
		}
	}
}

// P9.3, and what the chapter says more exactly: nobody, nowhere to go, no ticks, two ways from a room to the same one.
func TestFewRooms(t *testing.T) {
	for _, x := range []struct {
		rooms         api.CareRooms
		ticks, people int
		time          int // -1: too late for 20
	}{
		{api.CareRooms{People: []int{0}}, 20, 0, 0},
		{api.CareRooms{People: []int{0, 0}, Ways: []api.CareWay{{From: 0, To: 1, Most: 1}}}, 0, 0, 0},
		{api.CareRooms{People: []int{7}}, 20, 0, -1},
		{api.CareRooms{People: []int{7}, Ways: []api.CareWay{{From: 0, To: out, Most: 9}}}, 0, 0, 1},
		{api.CareRooms{People: []int{7}, Ways: []api.CareWay{{From: 0, To: out, Most: 9}}}, 1, 7, 1},
		{api.CareRooms{People: []int{7}, Ways: []api.CareWay{{From: 0, To: out, Most: 3}, {From: 0, To: out, Most: 2}}}, 1, 5, 2},
		{api.CareRooms{People: []int{7, 0}, Ways: []api.CareWay{{From: 0, To: 1, Most: 2}, {From: 0, To: 1, Most: 3}, {From: 1, To: out, Most: 9}}}, 2, 5, 3},
		{api.CareRooms{People: []int{7, 0}, Ways: []api.CareWay{{From: 0, To: 1, Most: 9}, {From: 1, To: 0, Most: 9}}}, 20, 0, -1},
		{api.CareRooms{People: []int{10000, 0}, Ways: []api.CareWay{{From: 1, To: out, Most: 10000}, {From: 0, To: 1, Most: 10000}}}, 1, 0, 2},
		{api.CareRooms{People: []int{2, 1}, Ways: []api.CareWay{{From: 0, To: 1, Most: 1}, {From: 1, To: out, Most: 5}}}, 2, 2, 3},
	} {
		n, e := care.OutBy(x.rooms, x.ticks)
		is(t, n, e, x.people)
		n, e = care.LeastTime(x.rooms, 20)
		if x.time < 0 {
			refused(t, "late", n, e, api.ErrLate)
		} else {
			is(t, n, e, x.time)
		}
		cut, e := care.BestCut(x.rooms, x.ticks)
		if e != api.OK {
			t.Error(x, e)
		}
		n, e = care.CheckCut(x.rooms, cut, x.ticks)
		is(t, n, e, x.people)
	}
}

// P9.3: as many rooms, ways, people and ticks as there may be.
func TestMostRooms(t *testing.T) {
	x := api.CareRooms{People: slices.Repeat([]int{10000}, 6)}
	for i := range 16 {
		w := api.CareWay{From: i % 6, To: (i + 1) % 6, Most: 10000}
		if i == 5 {
			w = api.CareWay{From: 5, To: out, Most: 10000}
		}
		x.Ways = append(x.Ways, w)
	}
	number, e := care.CheckRooms(x)
	is(t, number, e, 0)
	n, e := care.OutBy(x, 20)
	is(t, n, e, 60000)
	n, e = care.OutBy(x, 5)
	is(t, n, e, 50000)
	n, e = care.LeastTime(x, 20)
	is(t, n, e, 6)
	n, e = care.CheckCut(x, []int{20, 20, 20, 20, 20, 0}, 20)
	is(t, n, e, 10000*(5+20+19)) // the room 5 is inside: 20 times one may go outside, and 19 times to the room 0 by another way
}

// P9.3: the number of the room or the way beside an error.
func TestCheckRooms(t *testing.T) {
	for _, x := range []struct {
		people []int
		ways   []api.CareWay
		number int
		err    api.Errno
	}{
		{nil, []api.CareWay{{Most: -1}}, 0, api.ErrShape},
		{nil, make([]api.CareWay, 17), 0, api.ErrShape},
		{[]int{0, 0, 0, 0, 0, -1, 0}, nil, 0, api.ErrLarge},
		{[]int{0, -1}, make([]api.CareWay, 17), 0, api.ErrLarge},
		{[]int{1, 10000, 10001}, []api.CareWay{{From: 9}}, 2, api.ErrRange},
		{[]int{-1, 10000, 10001}, nil, 0, api.ErrRange},
		{[]int{1, -1, 10001}, nil, 1, api.ErrRange},
		{[]int{1, 2}, []api.CareWay{{From: 0, To: 1, Most: 1}, {From: 2, To: 2, Most: 0}}, 1, api.ErrMissing},
		{[]int{1, 2}, []api.CareWay{{From: 0, To: 1, Most: 1}, {From: 0, To: -2, Most: 0}}, 1, api.ErrMissing},
		{[]int{1, 2}, []api.CareWay{{From: -1, To: -1, Most: 1}}, 0, api.ErrMissing},
		{[]int{1, 2}, []api.CareWay{{From: 0, To: 2, Most: 1}}, 0, api.ErrMissing},
		{[]int{1, 2}, []api.CareWay{{From: 0, To: 1, Most: 1}, {From: 0, To: 1, Most: 10000}, {From: 1, To: 1, Most: 0}}, 2, api.ErrClash},
		{[]int{1, 2}, []api.CareWay{{From: 0, To: 0, Most: 10001}, {From: 0, To: 2}}, 0, api.ErrClash},
		{[]int{1, 2}, []api.CareWay{{From: 0, To: out, Most: 1}, {From: 0, To: out, Most: 10001}}, 1, api.ErrRange},
		{[]int{1, 2}, []api.CareWay{{From: 0, To: 1, Most: 1}, {From: 0, To: 1}, {From: 0, To: 0}}, 1, api.ErrRange},
		{[]int{0}, []api.CareWay{{From: 0, To: out, Most: 1}}, 0, api.OK},
	} {
		number, e := care.CheckRooms(api.CareRooms{People: x.people, Ways: x.ways})
		if number != x.number || e != x.err {
			t.Error(x, number, e)
		}
	}
}
