package timetable_test

import (
	"math/rand"
	"slices"
	"testing"

	"guideway/api"
	"guideway/timetable"
)

// P8.2: the chapter's examples 1 and 2.
func TestEarliestOfTheExample(t *testing.T) {
	for _, c := range []struct{ from, want []int }{
		{[]int{0, 0, 0, 0}, []int{0, 10, 15, 30}},
		{[]int{0, 0, 0, 45}, []int{5, 15, 20, 45}},
		{[]int{0, 35, 0, 0}, []int{15, 35, 40, 45}},
	} {
		got, e := timetable.Earliest(example(), c.from)
		isList(t, got, e, c.want...)
		i, e := timetable.CheckTimes(example(), got)
		isNumbered(t, i, e, 0, api.OK)
	}
	for _, early := range [][]int{{0, 0, 0, 0}, {0, 10, 40, 43}, {10000000, 10000000, 10000000, 10000000}} {
		got, e := timetable.Earliest(circular(), early)
		refused(t, "circular", got, e, api.ErrCycle)
	}
}

// P8.2: times up to the greatest one, and beyond.
func TestEarliestAtTheLimit(t *testing.T) {
	const most = 10000000
	got, e := timetable.Earliest(example(), []int{0, 0, 0, most})
	isList(t, got, e, most-40, most-30, most-25, most)
	got, e = timetable.Earliest(example(), []int{most - 30, 0, 0, 0})
	isList(t, got, e, most-30, most-20, most-15, most)
	for _, early := range [][]int{{most - 29, 0, 0, 0}, {most, 0, 0, 0}, {0, 0, most - 2, 0}, {0, most, 0, 0}, {most, most, most, most}} {
		got, e = timetable.Earliest(example(), early)
		refused(t, "beyond the limit", got, e, api.ErrLarge)
	}
	got, e = timetable.Earliest(largest(), make([]int, 16))
	for i := range 16 {
		if e != api.OK || got[i] != i*100000 {
			t.Error(got, e)
		}
	}
	last := make([]int, 16)
	last[15] = most
	got, e = timetable.Earliest(largest(), last)
	for i := range 16 {
		if e != api.OK || got[i] != most-(15-i)*100000 {
			t.Error(got, e)
		}
	}
	got, e = timetable.Earliest(net(3), []int{most, 0, 7})
	isList(t, got, e, most, 0, 7)
	got, e = timetable.Earliest(net(1), []int{5})
	isList(t, got, e, 5)
}

// P8.2: the number of the first activity that is not kept.
func TestCheckTimes(t *testing.T) {
	for _, c := range []struct {
		times  []int
		number int
		want   api.Errno
	}{
		{[]int{0, 10, 15, 30}, 0, api.OK}, {[]int{0, 20, 25, 40}, 0, api.OK}, {[]int{9999960, 9999980, 9999997, 10000000}, 0, api.OK},
		{[]int{0, 9, 15, 30}, 0, api.ErrBreak}, {[]int{0, 21, 26, 30}, 0, api.ErrBreak}, {[]int{0, 10, 14, 30}, 1, api.ErrBreak},
		{[]int{0, 10, 28, 30}, 2, api.ErrBreak}, {[]int{0, 10, 15, 29}, 3, api.ErrBreak}, {[]int{0, 10, 15, 41}, 3, api.ErrBreak},
		{[]int{0, 10, 14, 41}, 1, api.ErrBreak}, {[]int{10, 0, 0, 0}, 0, api.ErrBreak}, {[]int{0, 10, 10000000, 30}, 2, api.ErrBreak},
	} {
		i, e := timetable.CheckTimes(example(), c.times)
		isNumbered(t, i, e, c.number, c.want)
	}
	r := rand.New(rand.NewSource(1))
	counts := map[int]int{}
	for range 3000 {
		n := randomNet(r, 1+r.Intn(6), 8, 4)
		times := make([]int, len(n.Events))
		for i := range times {
			times[i] = r.Intn(4) + one(r, 1, 2, 3)*i
		}
		i, e := timetable.CheckTimes(n, times)
		want, ok := broken(n, times)
		if i != want || ok != (e == api.ErrBreak) || !ok && e != api.OK {
			t.Error(n, times, i, e)
		}
		counts[i]++
	}
	if len(counts) < 6 {
		t.Error(counts)
	}
}

// P8.2, P8.9, P8.10: by the definition: of all right times the least ones, or none of all times, and a cycle.
func TestEarliest(t *testing.T) {
	const longest = 3
	r := rand.New(rand.NewSource(1))
	cycles := 0
	for range 600 {
		n := randomNet(r, 1+r.Intn(4), 6, longest)
		early := make([]int, len(n.Events))
		for i := range early {
			early[i] = r.Intn(3)
		}
		got, e := timetable.Earliest(n, early)
		found := false
		// A walk without a cycle has at most 3 steps: so if there are right times, there are some up to 2 + 9.
		eachTimes(len(early), 0, 2+3*longest, func(times []int) bool {
			if _, wrong := broken(n, times); wrong {
				return true
			}
			for i := range times {
				if times[i] < early[i] {
					return true
				}
			}
			found = true
			for i := range times {
				if e != api.OK || times[i] < got[i] {
					t.Error(n, early, got, e, times)
					return false
				}
			}
			return true
		})
		if found {
			checkEarliest(t, n, early, got, e)
			continue
		}
		refused(t, "no times", got, e, api.ErrCycle)
		l, e := timetable.FindCycle(n)
		if length, proved := timetable.CheckCycle(n, l); e != api.OK || proved != api.OK || length <= 0 {
			t.Error(n, l, e, length, proved)
		}
		cycles++
	}
	if cycles < 50 || cycles > 500 {
		t.Error(cycles)
	}
}

// checkEarliest fails if times are not right, or are less than those told, or there is a cycle.
func checkEarliest(t *testing.T, n api.TimetableNet, early, got []int, e api.Errno) {
	t.Helper()
	if i, wrong := timetable.CheckTimes(n, got); e != api.OK || wrong != api.OK {
		t.Error(n, early, got, e, i, wrong)
	}
	for i := range early {
		if got[i] < early[i] {
			t.Error(n, early, got)
		}
	}
	l, e := timetable.FindCycle(n)
	refused(t, "cycle", l, e, api.ErrNone)
}

// P8.2, P8.9: in great nets each time is just the greatest one of those told, and of the walks to it.
func TestEarliestByWalks(t *testing.T) {
	r := rand.New(rand.NewSource(2))
	right := 0
	for range 1000 {
		longest := one(r, 1, 5, 50, 50000)
		n := randomNet(r, 1+r.Intn(16), one(r, 5, 12, 30), longest)
		early := make([]int, len(n.Events))
		for i := range early {
			early[i] = one(r, 0, r.Intn(10), r.Intn(1000), r.Intn(100000))
		}
		got, e := timetable.Earliest(n, early)
		d, ok := distances(n)
		if !ok {
			refused(t, "cycle", got, e, api.ErrCycle)
			continue
		}
		right++
		want := slices.Clone(early)
		for i, row := range d {
			for k, length := range row {
				want[k] = max(want[k], early[i]+length)
			}
		}
		isList(t, got, e, want...)
		checkEarliest(t, n, early, got, e)
	}
	if right < 300 || right > 900 {
		t.Error(right)
	}
}

// P8.10: greater times as from make no event earlier.
func TestEarliestFromLater(t *testing.T) {
	r := rand.New(rand.NewSource(3))
	for range 500 {
		n, times := rightNet(r, 1+r.Intn(8), 12, 10)
		later := slices.Clone(times)
		for i := range later {
			later[i] += one(r, 0, 0, 1, 7, 100)
		}
		got, e := timetable.Earliest(n, later)
		checkEarliest(t, n, later, got, e)
		for i := range got {
			if got[i] < times[i] {
				t.Error(n, times, later, got)
			}
		}
		again, e := timetable.Earliest(n, times)
		isList(t, again, e, times...)
	}
}

// P8.4: the chapter's example 4.
func TestReservesOfTheExample(t *testing.T) {
	times := []int{0, 10, 15, 30}
	for i, want := range []int{0, 0, 12, 0} {
		got, e := timetable.ReserveOf(example(), times, i)
		is(t, got, e, want)
	}
	for i, want := range []api.Range{{Lo: 0, Hi: 0}, {Lo: 10, Hi: 10}, {Lo: 15, Hi: 27}, {Lo: 30, Hi: 40}} {
		got, e := timetable.FreedomOf(example(), times, i)
		is(t, got, e, want)
	}
	got, e := timetable.FreedomOf(net(1), []int{5}, 0)
	is(t, got, e, api.Range{Hi: 10000000})
	got, e = timetable.FreedomOf(net(2, from(0, 1, 3, 7)), []int{5, 10}, 0)
	is(t, got, e, api.Range{Lo: 3, Hi: 7})
	got, e = timetable.FreedomOf(net(2, from(0, 1, 3, 7)), []int{0, 5}, 0)
	is(t, got, e, api.Range{Lo: 0, Hi: 2})
	got, e = timetable.FreedomOf(net(2, from(0, 1, 3, 7)), []int{9999995, 10000000}, 1)
	is(t, got, e, api.Range{Lo: 9999998, Hi: 10000000})
	got, e = timetable.FreedomOf(net(2, from(0, 1, 3, 7)), []int{9999990, 9999995}, 1)
	is(t, got, e, api.Range{Lo: 9999993, Hi: 9999997})
}

// P8.4: by the definitions: an event may have just those times with which all times are right.
func TestReserves(t *testing.T) {
	const longest = 6
	r := rand.New(rand.NewSource(4))
	for range 600 {
		n, times := rightNet(r, 1+r.Intn(6), 8, longest)
		for i, a := range n.Activities {
			got, e := timetable.ReserveOf(n, times, i)
			is(t, got, e, times[a.To]-times[a.From]-a.Least)
			if got < 0 {
				t.Error(n, times, i, got)
			}
		}
		for event := range n.Events {
			got, e := timetable.FreedomOf(n, times, event)
			if e != api.OK {
				t.Error(e)
			}
			moved := slices.Clone(times)
			for _, time := range append([]int{9999999, 10000000}, numbers(0, slices.Max(times)+3*longest)...) {
				moved[event] = time
				if _, wrong := broken(n, moved); wrong == (got.Lo <= time && time <= got.Hi) {
					t.Error(n, times, event, got, time)
				}
			}
			if got.Lo < 0 || got.Hi > 10000000 {
				t.Error(n, times, event, got)
			}
		}
	}
}

// numbers are those from lo to hi.
func numbers(lo, hi int) []int {
	var list []int
	for i := lo; i <= hi; i++ {
		list = append(list, i)
	}
	return list
}

// P8.13: right times are right without any activity.
func TestFewerActivities(t *testing.T) {
	r := rand.New(rand.NewSource(5))
	for range 300 {
		n, times := rightNet(r, 2+r.Intn(6), 12, 10)
		for i := range n.Activities {
			fewer, e := timetable.Without(n, i)
			if e != api.OK {
				t.Error(n, i, e)
			}
			i, e := timetable.CheckTimes(fewer, times)
			isNumbered(t, i, e, 0, api.OK)
		}
	}
}
