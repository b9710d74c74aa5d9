package timetable_test

import (
	"math/rand"
	"testing"

	"guideway/api"
	"guideway/timetable"
)

// P8.6: the chapter's example 7.
func TestFirstCloseOfTheExample(t *testing.T) {
	times := []int{0, 10, 15, 30}
	uses := []api.TimetableUse{{Section: 1, Enter: 0, Leave: 1}, {Section: 1, Enter: 2, Leave: 3}}
	got, e := timetable.FirstClose(example(), times, api.TimetableUses{Uses: uses, Gap: 5})
	refused(t, "the gap 5", got, e, api.ErrNone)
	got, e = timetable.FirstClose(example(), times, api.TimetableUses{Uses: uses, Gap: 6})
	is(t, got, e, [2]int{0, 1})
	uses[0], uses[1] = uses[1], uses[0]
	got, e = timetable.FirstClose(example(), times, api.TimetableUses{Uses: uses, Gap: 5})
	refused(t, "the gap 5, turned round", got, e, api.ErrNone)
	got, e = timetable.FirstClose(example(), times, api.TimetableUses{Uses: uses, Gap: 6})
	is(t, got, e, [2]int{0, 1})
	uses[1].Section = 2
	got, e = timetable.FirstClose(example(), times, api.TimetableUses{Uses: uses, Gap: 100000})
	refused(t, "two sections", got, e, api.ErrNone)
	got, e = timetable.FirstClose(example(), times, api.TimetableUses{})
	refused(t, "no uses", got, e, api.ErrNone)
}

// P8.6: uses whose gap is 0 may leave and enter in the same second, also if they last no time.
func TestFirstCloseInOneSecond(t *testing.T) {
	times := []int{0, 10, 10, 20}
	for _, c := range []struct {
		first, second [2]int
		gap           int
		isClose       bool
	}{
		{[2]int{0, 1}, [2]int{1, 3}, 0, false}, {[2]int{0, 1}, [2]int{2, 3}, 0, false}, {[2]int{0, 1}, [2]int{2, 3}, 1, true},
		{[2]int{1, 1}, [2]int{2, 2}, 0, false}, {[2]int{1, 2}, [2]int{1, 2}, 0, false}, {[2]int{1, 2}, [2]int{1, 2}, 1, true},
		{[2]int{0, 3}, [2]int{1, 1}, 0, true}, {[2]int{0, 0}, [2]int{0, 3}, 0, false}, {[2]int{0, 3}, [2]int{0, 3}, 0, true},
		{[2]int{3, 3}, [2]int{0, 3}, 0, false}, {[2]int{0, 0}, [2]int{3, 3}, 20, false}, {[2]int{0, 0}, [2]int{3, 3}, 21, true},
	} {
		for _, uses := range [][]api.TimetableUse{
			{{Enter: c.first[0], Leave: c.first[1]}, {Enter: c.second[0], Leave: c.second[1]}},
			{{Enter: c.second[0], Leave: c.second[1]}, {Enter: c.first[0], Leave: c.first[1]}},
		} {
			got, e := timetable.FirstClose(net(4), times, api.TimetableUses{Uses: uses, Gap: c.gap})
			if c.isClose {
				is(t, got, e, [2]int{0, 1})
			} else {
				refused(t, "in one second", got, e, api.ErrNone)
			}
		}
	}
}

// P8.6: by the definition, of all pairs the first one.
func TestFirstClose(t *testing.T) {
	r := rand.New(rand.NewSource(1))
	pairs := map[[2]int]int{}
	for range 3000 {
		n, times := rightNet(r, 1+r.Intn(8), 8, 10)
		u := api.TimetableUses{Gap: one(r, 0, 0, 1, 5, 100000)}
		for range r.Intn(13) {
			use := api.TimetableUse{Section: one(r, 0, 1, 2, 3, 4, 5, 1000), Enter: r.Intn(len(times)), Leave: r.Intn(len(times))}
			if times[use.Leave] < times[use.Enter] {
				use.Enter, use.Leave = use.Leave, use.Enter
			}
			u.Uses = append(u.Uses, use)
		}
		got, e := timetable.FirstClose(n, times, u)
		want, ok := firstClose(times, u)
		pairs[want]++
		if ok {
			is(t, got, e, want)
		} else {
			refused(t, "not close", got, e, api.ErrNone)
		}
	}
	if len(pairs) < 30 || pairs[[2]int{}] < 100 {
		t.Error(pairs)
	}
}

// firstClose is the first pair that is too close, by the definition; false if there is none.
func firstClose(times []int, u api.TimetableUses) ([2]int, bool) {
	for i := range u.Uses {
		for k := i + 1; k < len(u.Uses); k++ {
			a, b := u.Uses[i], u.Uses[k]
			if a.Section == b.Section && times[a.Leave]+u.Gap > times[b.Enter] && times[b.Leave]+u.Gap > times[a.Enter] {
				return [2]int{i, k}, true
			}
		}
	}
	return [2]int{}, false
}
