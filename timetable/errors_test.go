package timetable_test

import (
	"math"
	"slices"
	"strconv"
	"testing"

	"guideway/api"
	"guideway/timetable"
)

// arguments are those of all functions.
type arguments struct {
	n                       api.TimetableNet
	times, round            []int
	event, second, activity int
	steps                   []api.TimetableStep
	delays                  []api.TimetableDelay
	u                       api.TimetableUses
	period                  int
}

// right are arguments that all functions accept which ask for neither a cycle nor a pair that is too close.
func right() arguments {
	return arguments{
		n: example(), times: []int{0, 10, 15, 30}, round: []int{0, 10, 3, 7}, event: 1, second: 3, activity: 2, period: 12,
		steps:  []api.TimetableStep{back(0), forward(3)},
		delays: []api.TimetableDelay{{Event: 2, By: 5}, {Event: 0, By: 100000}, {Event: 1, By: 1}},
		u: api.TimetableUses{Gap: 5, Uses: []api.TimetableUse{
			{Section: 1000, Enter: 0, Leave: 1}, {Section: 0, Enter: 1, Leave: 2}, {Section: 1000, Enter: 2, Leave: 3},
		}},
	}
}

// fault makes arguments wrong.
type fault struct {
	name   string
	change func(*arguments)
	want   api.Errno
}

// function is a function, what makes it accept its arguments, and the faults that it refuses: those of the first list ahead
// of those of the next one.
type function struct {
	name   string
	accept func(*arguments)
	call   func(arguments) (any, api.Errno)
	faults [][]fault
}

func functions() []function {
	nets := netFaults()
	times := slices.Concat(nets, timeFaults(func(a *arguments) *[]int { return &a.times }, 10000000))
	kept := slices.Concat(times, brokenFaults())
	events := numberFaults("event", 3, func(a *arguments, i int) { a.event = i })
	both := slices.Concat(events, numberFaults("second event", 3, func(a *arguments, i int) { a.second = i }))
	activities := numberFaults("activity", 3, func(a *arguments, i int) { a.activity = i })
	delays := slices.Concat(kept, delayFaults())
	periods := slices.Concat(nets, periodFaults())
	nothing := func(*arguments) {}
	circle := func(a *arguments) { a.steps = []api.TimetableStep{forward(0), forward(1), forward(2), back(3)} }
	return []function{
		{"CheckNet", nothing, func(a arguments) (any, api.Errno) { _, e := timetable.CheckNet(a.n); return nil, e }, nets},
		{"CheckTimes", nothing, func(a arguments) (any, api.Errno) { return numbered(timetable.CheckTimes(a.n, a.times)) }, kept},
		{"Earliest", nothing, func(a arguments) (any, api.Errno) { x, e := timetable.Earliest(a.n, a.times); return x, e }, slices.Concat(times, cycleFaults(), lateFaults())},
		{"FindCycle", breakHeadway, func(a arguments) (any, api.Errno) { x, e := timetable.FindCycle(a.n); return x, e }, slices.Concat(nets, straightFaults())},
		{"CheckCycle", func(a *arguments) {
			circle(a)
			breakHeadway(a)
		}, func(a arguments) (any, api.Errno) { x, e := timetable.CheckCycle(a.n, a.steps); return x, e }, slices.Concat(nets, stepFaults(), roundFaults())},
		{"Between", nothing, func(a arguments) (any, api.Errno) {
			length, l, e := timetable.Between(a.n, a.event, a.second)
			if length != 0 {
				return length, e
			}
			return l, e
		}, slices.Concat(nets, both, sameFaults(), cycleFaults(), apartFaults())},
		{"CheckWalk", nothing, func(a arguments) (any, api.Errno) {
			x, e := timetable.CheckWalk(a.n, [2]int{a.event, a.second}, a.steps)
			return x, e
		}, slices.Concat(nets, both, stepFaults(), walkFaults())},
		{"ReserveOf", nothing, func(a arguments) (any, api.Errno) { x, e := timetable.ReserveOf(a.n, a.times, a.activity); return x, e }, slices.Concat(kept, activities)},
		{"FreedomOf", nothing, func(a arguments) (any, api.Errno) { x, e := timetable.FreedomOf(a.n, a.times, a.event); return x, e }, slices.Concat(kept, events)},
		{"Late", nothing, func(a arguments) (any, api.Errno) {
			x, e := timetable.Late(a.n, a.times, a.delays)
			return slices.Concat(x.Times, x.GivenUp), e
		}, delays},
		{"LateEvents", nothing, func(a arguments) (any, api.Errno) { x, e := timetable.LateEvents(a.n, a.times, a.delays); return x, e }, delays},
		{"MostDelay", nothing, func(a arguments) (any, api.Errno) { x, e := timetable.MostDelay(a.n, a.times, a.event); return x, e }, slices.Concat(kept, events)},
		{"FirstClose", func(a *arguments) { a.u.Gap = 6 }, func(a arguments) (any, api.Errno) { x, e := timetable.FirstClose(a.n, a.times, a.u); return x, e }, slices.Concat(kept, useFaults())},
		{"CheckPeriodic", nothing, func(a arguments) (any, api.Errno) {
			return numbered(timetable.CheckPeriodic(a.n, a.round, a.period))
		}, slices.Concat(periods, timeFaults(func(a *arguments) *[]int { return &a.round }, 11), [][]fault{{{"not kept", func(a *arguments) { a.round[1] = 9 }, api.ErrBreak}}})},
		{"FirstPeriodic", nothing, func(a arguments) (any, api.Errno) { x, e := timetable.FirstPeriodic(a.n, a.period); return x, e }, slices.Concat(periods, manyFaults())},
		{"Without", nothing, func(a arguments) (any, api.Errno) { x, e := timetable.Without(a.n, a.activity); return x, e }, slices.Concat(nets, activities)},
		{"Print", nothing, func(a arguments) (any, api.Errno) { x, e := timetable.Print(a.n); return x, e }, nets},
	}
}

// numbered leaves out the number of an activity that is not kept: other tests ask for it.
func numbered(number int, e api.Errno) (any, api.Errno) {
	if e == api.ErrBreak {
		return nil, e
	}
	return number, e
}

// breakHeadway makes the walk through c so long that it and the headway are a cycle.
func breakHeadway(a *arguments) {
	a.n.Activities[1].Least = 28
}

func netFaults() [][]fault {
	var list []fault
	for _, w := range slices.Concat(wrongNets()...) {
		list = append(list, fault{"net, " + w.name, func(a *arguments) {
			a.n = example()
			w.change(&a.n)
		}, w.err})
	}
	return [][]fault{list}
}

func timeFaults(of func(a *arguments) *[]int, most int) [][]fault {
	shapes := []fault{
		{"no times", func(a *arguments) { *of(a) = nil }, api.ErrShape},
		{"a time less", func(a *arguments) { *of(a) = (*of(a))[:3] }, api.ErrShape},
		{"a time more", func(a *arguments) { *of(a) = append(*of(a), 0) }, api.ErrShape},
		{"a wrong time more", func(a *arguments) { *of(a) = append(*of(a), -1) }, api.ErrShape},
	}
	var ranges []fault
	for i := range 4 {
		for _, time := range outside(0, most) {
			ranges = append(ranges, fault{"time " + strconv.Itoa(i), func(a *arguments) { (*of(a))[i] = time }, api.ErrRange})
		}
	}
	return [][]fault{shapes, ranges}
}

// brokenFaults are times that are not right.
func brokenFaults() [][]fault {
	var list []fault
	for _, times := range [][]int{{0, 9, 15, 30}, {0, 21, 26, 30}, {0, 10, 14, 30}, {0, 10, 28, 30}, {0, 10, 15, 41}, {0, 10, 15, 29}, {1, 0, 0, 0}, {10000000, 0, 0, 10000000}} {
		list = append(list, fault{"broken", func(a *arguments) { a.times = slices.Clone(times) }, api.ErrBreak})
	}
	return [][]fault{list}
}

func numberFaults(name string, most int, set func(a *arguments, i int)) [][]fault {
	var list []fault
	for _, i := range outside(0, most) {
		list = append(list, fault{name + " " + strconv.Itoa(i), func(a *arguments) { set(a, i) }, api.ErrMissing})
	}
	return [][]fault{list}
}

// cycleFaults are nets without right times.
func cycleFaults() [][]fault {
	return [][]fault{{
		{"a cycle", func(a *arguments) { a.n.Activities = append(a.n.Activities, from(2, 3, 5, open), from(2, 3, 1, 4)) }, api.ErrCycle},
		{"a cycle forward", func(a *arguments) { a.n.Activities = append(a.n.Activities, from(0, 2, 1, open), from(2, 0, 1, open)) }, api.ErrCycle},
	}}
}

// lateFaults are times that lead to times beyond the limit.
func lateFaults() [][]fault {
	return [][]fault{{
		{"late", func(a *arguments) { a.times = []int{9999971, 0, 0, 0} }, api.ErrLarge},
		{"very late", func(a *arguments) { a.times = []int{0, 10000000, 0, 0} }, api.ErrLarge},
	}}
}

// straightFaults are nets without a cycle.
func straightFaults() [][]fault {
	return [][]fault{{
		{"a round as long as 0", func(a *arguments) { a.n.Activities[1].Least = 27 }, api.ErrNone},
		{"nothing back", func(a *arguments) { a.n.Activities[3].Most = open }, api.ErrNone},
		{"no activities", func(a *arguments) { a.n.Activities = nil }, api.ErrNone},
	}}
}

// stepFaults are the errors of steps, each list ahead of the next one.
func stepFaults() [][]fault {
	steps := func(name string, err api.Errno, l ...api.TimetableStep) fault {
		return fault{"steps, " + name, func(a *arguments) { a.steps = slices.Clone(l) }, err}
	}
	lists := [][]fault{{
		steps("41", api.ErrLarge, slices.Repeat([]api.TimetableStep{forward(0)}, 41)...),
		steps("41 wrong ones", api.ErrLarge, slices.Repeat([]api.TimetableStep{forward(9)}, 41)...),
	}, nil}
	for _, i := range outside(0, 3) {
		lists[1] = append(lists[1],
			steps("missing", api.ErrMissing, forward(i)), steps("missing back", api.ErrMissing, back(i)), steps("missing behind", api.ErrMissing, forward(0), forward(i)),
			steps("missing ahead of open", api.ErrMissing, forward(i), back(1)), steps("missing at the end", api.ErrMissing, append(slices.Repeat([]api.TimetableStep{forward(0), back(0)}, 19), back(i))...),
			steps("open ahead of missing", api.ErrOpen, back(1), forward(i)), steps("gap ahead of missing", api.ErrGap, forward(0), forward(2), forward(i)))
	}
	lists[1] = append(lists[1],
		steps("open", api.ErrOpen, back(1)), steps("open behind", api.ErrOpen, forward(0), forward(1), back(1)), steps("open ahead of gap", api.ErrOpen, forward(0), back(2)),
		steps("gap", api.ErrGap, forward(0), forward(2)), steps("gap at the end", api.ErrGap, forward(0), forward(1), forward(1)), steps("gap back", api.ErrGap, forward(0), back(3)), steps("twice", api.ErrGap, forward(3), forward(3)))
	return append(lists, []fault{steps("none", api.ErrShape)})
}

// roundFaults are walks that are no cycles.
func roundFaults() [][]fault {
	steps := func(l ...api.TimetableStep) fault {
		return fault{"no cycle", func(a *arguments) { a.steps = l }, api.ErrProof}
	}
	return [][]fault{{
		steps(forward(0)), steps(forward(0), forward(1), forward(2)), steps(forward(0), back(0)), steps(back(3), forward(3)), steps(back(3)),
		{"as long as 0", func(a *arguments) { a.n.Activities[1].Least = 27 }, api.ErrProof},
	}}
}

// walkFaults are walks of other events.
func walkFaults() [][]fault {
	steps := func(l ...api.TimetableStep) fault {
		return fault{"another walk", func(a *arguments) { a.steps = l }, api.ErrProof}
	}
	return [][]fault{{
		steps(back(0)), steps(forward(3)), steps(forward(2)), steps(back(3), forward(0)),
		{"other begin", func(a *arguments) { a.event = 2 }, api.ErrProof}, {"other end", func(a *arguments) { a.second = 2 }, api.ErrProof},
	}}
}

func sameFaults() [][]fault {
	var list []fault
	for i := range 4 {
		list = append(list, fault{"the same event", func(a *arguments) { a.event, a.second = i, i }, api.ErrDouble})
	}
	return [][]fault{list}
}

// apartFaults are nets without a walk.
func apartFaults() [][]fault {
	return [][]fault{{{"no walk", func(a *arguments) {
		a.n.Activities[0].Most, a.n.Activities[1].From, a.n.Activities[1].To = open, 0, 2
	}, api.ErrNone}}}
}

// delayFaults are the errors of delays, each list ahead of the next one.
func delayFaults() [][]fault {
	lists := [][]fault{{
		{"13 delays", func(a *arguments) { a.delays = make([]api.TimetableDelay, 13) }, api.ErrLarge},
		{"13 delays of no event", func(a *arguments) { a.delays = slices.Repeat([]api.TimetableDelay{{Event: -1}}, 13) }, api.ErrLarge},
	}}
	for i := range 3 {
		var missing, ranges, double []fault
		set := func(event, by int, err api.Errno) fault {
			return fault{"delay " + strconv.Itoa(i), func(a *arguments) { a.delays[i] = api.TimetableDelay{Event: event, By: by} }, err}
		}
		for _, event := range outside(0, 3) {
			missing = append(missing, set(event, 1, api.ErrMissing), set(event, 0, api.ErrMissing))
		}
		for _, by := range outside(1, 100000) {
			ranges = append(ranges, set(3, by, api.ErrRange))
			if i > 0 {
				ranges = append(ranges, set(right().delays[0].Event, by, api.ErrRange)) // ahead of a double one
			}
		}
		for k := range i {
			d := right().delays[k]
			double = append(double, set(d.Event, 7, api.ErrDouble), set(d.Event, d.By, api.ErrDouble))
		}
		lists = append(lists, slices.Concat(missing, ranges), double)
	}
	return lists
}

// useFaults are the errors of uses, each list ahead of the next one.
func useFaults() [][]fault {
	lists := [][]fault{{
		{"13 uses", func(a *arguments) { a.u.Uses = make([]api.TimetableUse, 13) }, api.ErrLarge},
		{"13 wrong uses", func(a *arguments) { a.u.Uses = slices.Repeat([]api.TimetableUse{{Section: -1}}, 13) }, api.ErrLarge},
	}}
	for i := range 3 {
		var ranges, missing, order []fault
		add := func(list *[]fault, err api.Errno, change func(u *api.TimetableUse)) {
			*list = append(*list, fault{"use " + strconv.Itoa(i), func(a *arguments) { change(&a.u.Uses[i]) }, err})
		}
		for _, section := range outside(0, 1000) {
			add(&ranges, api.ErrRange, func(u *api.TimetableUse) { u.Section = section })
		}
		for _, event := range outside(0, 3) {
			add(&missing, api.ErrMissing, func(u *api.TimetableUse) { u.Enter = event })
			add(&missing, api.ErrMissing, func(u *api.TimetableUse) { u.Leave = event })
			add(&missing, api.ErrMissing, func(u *api.TimetableUse) { u.Enter, u.Leave = event, event })
		}
		for _, pair := range [][2]int{{1, 0}, {2, 1}, {3, 2}, {3, 0}} {
			add(&order, api.ErrOrder, func(u *api.TimetableUse) { u.Enter, u.Leave = pair[0], pair[1] })
		}
		lists = append(lists, ranges, missing, order)
	}
	var gaps []fault
	for _, gap := range outside(0, 100000) {
		gaps = append(gaps, fault{"gap", func(a *arguments) { a.u.Gap = gap }, api.ErrRange})
	}
	return append(lists, gaps, []fault{
		{"no pair that is too close", func(a *arguments) { a.u.Gap = 5 }, api.ErrNone},
		{"other sections", func(a *arguments) { a.u.Uses[0].Section = 999 }, api.ErrNone},
		{"no time between", func(a *arguments) { a.u.Uses[0].Leave, a.u.Uses[2].Enter = 0, 3 }, api.ErrNone},
	})
}

func periodFaults() [][]fault {
	var list []fault
	for _, period := range []int{0, -1, -12, 13, math.MinInt, math.MinInt + 1, math.MaxInt} {
		list = append(list, fault{"period " + strconv.Itoa(period), func(a *arguments) { a.period = period }, api.ErrRange})
	}
	return [][]fault{list}
}

// manyFaults are nets with too many events for periodic times to be looked for, and such without any.
func manyFaults() [][]fault {
	return [][]fault{{
		{"6 events", func(a *arguments) { a.n.Events = append(a.n.Events, "e", "f") }, api.ErrLarge},
		{"16 events", func(a *arguments) { a.n = largest() }, api.ErrLarge},
	}, {{"none", func(a *arguments) { a.n.Activities = append(a.n.Activities, from(1, 0, 1, 1), from(1, 0, 2, 2)) }, api.ErrNone}}}
}

// P8.1 to P8.8, R1: each error of each function; the one that is listed first counts, whatever is wrong besides.
func TestErrors(t *testing.T) {
	for _, f := range functions() {
		rightOf := func() arguments {
			a := right()
			f.accept(&a)
			return a
		}
		if _, e := f.call(rightOf()); e != api.OK {
			t.Error(f.name, e)
		}
		for i, list := range f.faults {
			for _, first := range list {
				a := rightOf()
				first.change(&a)
				result, e := f.call(a)
				refused(t, f.name+": "+first.name, result, e, first.want)
				for _, second := range slices.Concat(f.faults[i+1:]...) {
					b := rightOf()
					second.change(&b)
					first.change(&b)
					result, e := f.call(b)
					refused(t, f.name+": "+first.name+" ahead of "+second.name, result, e, first.want)
				}
			}
		}
	}
}
