package timetable_test

import (
	"math/rand"
	"slices"
	"testing"

	"guideway/api"
	"guideway/timetable"
)

// P8.7: the chapter's example 9.
func TestPeriodicOfTheExample(t *testing.T) {
	n := net(2, from(0, 1, 10, 11), from(1, 0, 3, 4))
	got, e := timetable.FirstPeriodic(n, 12)
	refused(t, "none", got, e, api.ErrNone)
	i, e := timetable.CheckPeriodic(n, []int{0, 10}, 12)
	isNumbered(t, i, e, 1, api.ErrBreak)
	i, e = timetable.CheckPeriodic(n, []int{0, 11}, 12)
	isNumbered(t, i, e, 1, api.ErrBreak)
	i, e = timetable.CheckPeriodic(n, []int{0, 9}, 12)
	isNumbered(t, i, e, 0, api.ErrBreak)
	n.Activities[1] = from(1, 0, 1, 2)
	got, e = timetable.FirstPeriodic(n, 12)
	isList(t, got, e, 0, 10)
	i, e = timetable.CheckPeriodic(n, got, 12)
	isNumbered(t, i, e, 0, api.OK)
}

// P8.7: times may go on behind the end of the period; what may last as long as the period less 1 is always kept.
func TestCheckPeriodicRound(t *testing.T) {
	i, e := timetable.CheckPeriodic(net(2, from(0, 1, 2, 2)), []int{11, 1}, 12)
	isNumbered(t, i, e, 0, api.OK)
	i, e = timetable.CheckPeriodic(net(2, from(0, 1, 99998, 99998)), []int{11, 1}, 12) // 8333 periods, and 2
	isNumbered(t, i, e, 0, api.OK)
	for time := range 12 {
		for other := range 12 {
			for _, a := range []api.TimetableActivity{from(0, 1, 7, 18), from(0, 1, 7, open), from(1, 0, 100000, open), from(0, 1, 1, 100000)} {
				i, e = timetable.CheckPeriodic(net(2, a), []int{time, other}, 12)
				isNumbered(t, i, e, 0, api.OK)
			}
			i, e = timetable.CheckPeriodic(net(2, from(0, 1, 7, 17)), []int{time, other}, 12)
			if isKept := (time+6)%12 != other; isKept != (e == api.OK) || i != 0 || !isKept && e != api.ErrBreak {
				t.Error(time, other, i, e)
			}
		}
	}
	i, e = timetable.CheckPeriodic(largest(), make([]int, 16), 1)
	isNumbered(t, i, e, 0, api.OK)
	got, e := timetable.FirstPeriodic(net(5, from(0, 1, 100000, 100000)), 1)
	isList(t, got, e, 0, 0, 0, 0, 0)
	got, e = timetable.FirstPeriodic(net(5), 12)
	isList(t, got, e, 0, 0, 0, 0, 0)
}

// isKeptRound tells whether periodic times keep an activity, by the definition.
func isKeptRound(a api.TimetableActivity, times []int, period int) bool {
	if a.Most == open {
		return true
	}
	rest := times[a.To] - times[a.From] - a.Least
	for rest < 0 {
		rest += period
	}
	for rest >= period {
		rest -= period
	}
	return rest <= a.Most-a.Least
}

// P8.7: by the definition: of all periodic times the first right ones.
func TestFirstPeriodic(t *testing.T) {
	r := rand.New(rand.NewSource(1))
	found, counts := 0, map[int]int{}
	for range 800 {
		events := 1 + r.Intn(5)
		period := 1 + r.Intn([]int{12, 12, 12, 7, 5}[events-1])
		n := randomNet(r, events, one(r, 4, 9), 6)
		for i := range n.Activities {
			if a := &n.Activities[i]; r.Intn(8) > 0 { // there is little room, so that often no times are right
				a.Most = a.Least + r.Intn(2)
			}
		}
		var want []int
		eachTimes(events, 0, period-1, func(times []int) bool {
			i := slices.IndexFunc(n.Activities, func(a api.TimetableActivity) bool { return !isKeptRound(a, times, period) })
			if r.Intn(50) == 0 || i < 0 {
				number, e := timetable.CheckPeriodic(n, times, period)
				counts[i]++
				if i < 0 {
					isNumbered(t, number, e, 0, api.OK)
				} else {
					isNumbered(t, number, e, i, api.ErrBreak)
				}
			}
			if i < 0 {
				want = slices.Clone(times)
			}
			return want == nil
		})
		got, e := timetable.FirstPeriodic(n, period)
		if want == nil {
			refused(t, "none", got, e, api.ErrNone)
			continue
		}
		found++
		isList(t, got, e, want...)
	}
	if found < 100 || found > 700 || len(counts) < 6 {
		t.Error(found, counts)
	}
}

// P8.7: 5 events in the longest period, with right times only at the very end.
func TestFirstPeriodicAtTheEnd(t *testing.T) {
	n := net(5, from(0, 1, 11, 11), from(1, 2, 12, 12), from(2, 3, 24, 24), from(3, 4, 36, 36))
	got, e := timetable.FirstPeriodic(n, 12)
	isList(t, got, e, 0, 11, 11, 11, 11)
	n.Activities = append(n.Activities, from(0, 4, 10, 10))
	got, e = timetable.FirstPeriodic(n, 12)
	refused(t, "none", got, e, api.ErrNone)
}
