package timetable_test

import (
	"math/rand"
	"testing"

	"guideway/api"
	"guideway/timetable"
)

// forward and back are steps along an activity.
func forward(activity int) api.TimetableStep { return api.TimetableStep{Activity: activity} }

func back(activity int) api.TimetableStep {
	return api.TimetableStep{Activity: activity, Back: true}
}

// lengthOf is the length of a walk from an event to another one, by the definition; false if it is none.
func lengthOf(n api.TimetableNet, a, b int, l []api.TimetableStep) (int, bool) {
	length := 0
	for _, s := range l {
		x, ok := arcOf(n, s)
		if !ok || x.from != a {
			return 0, false
		}
		a = x.to
		length += x.length
	}
	if a != b {
		return 0, false
	}
	return length, true
}

// P8.3: the chapter's example 2.
func TestCheckCycle(t *testing.T) {
	n := circular()
	round := []api.TimetableStep{forward(0), forward(4), forward(2), back(3)}
	for i := range round { // a cycle may begin at any of its events
		length, e := timetable.CheckCycle(n, append(append([]api.TimetableStep{}, round[i:]...), round[:i]...))
		is(t, length, e, 3)
	}
	twice := append(append([]api.TimetableStep{}, round...), round...)
	length, e := timetable.CheckCycle(n, twice)
	is(t, length, e, 6)
	var long []api.TimetableStep
	for range 10 {
		long = append(long, round...)
	}
	length, e = timetable.CheckCycle(n, long)
	is(t, length, e, 30)
	length, e = timetable.CheckCycle(n, append(long, round...))
	refused(t, "44 steps", length, e, api.ErrLarge)
	// A round as long as 0 is none, and neither is one less long.
	zero := net(2, from(0, 1, 5, 5), from(0, 1, 4, 6))
	for _, l := range [][]api.TimetableStep{{forward(0), back(0)}, {forward(0), back(1)}, {forward(1), back(0)}} {
		length, e = timetable.CheckCycle(zero, l)
		refused(t, "no cycle", length, e, api.ErrProof)
	}
	zero.Activities[0].Least, zero.Activities[0].Most = 7, 7
	length, e = timetable.CheckCycle(zero, []api.TimetableStep{forward(0), back(1)})
	is(t, length, e, 1)
	// The end is asked for, not the events between.
	length, e = timetable.CheckCycle(n, []api.TimetableStep{forward(0), forward(4), back(4), forward(4), forward(2)})
	refused(t, "no round", length, e, api.ErrProof)
}

// P8.3
func TestCheckWalk(t *testing.T) {
	n := example()
	for _, c := range []struct {
		a, b, want int
		l          []api.TimetableStep
	}{
		{0, 1, 10, []api.TimetableStep{forward(0)}},
		{1, 0, -20, []api.TimetableStep{back(0)}},
		{1, 3, 10, []api.TimetableStep{back(0), forward(3)}},
		{1, 3, 8, []api.TimetableStep{forward(1), forward(2)}},
		{0, 0, -10, []api.TimetableStep{forward(0), back(0)}},
		{3, 2, -25, []api.TimetableStep{back(3), forward(0), forward(1)}},
		{3, 3, -10, []api.TimetableStep{back(3), forward(3)}},
	} {
		got, e := timetable.CheckWalk(n, [2]int{c.a, c.b}, c.l)
		is(t, got, e, c.want)
		for a := range 4 {
			for b := range 4 {
				if a == c.a && b == c.b {
					continue
				}
				got, e := timetable.CheckWalk(n, [2]int{a, b}, c.l)
				refused(t, "another pair", got, e, api.ErrProof)
			}
		}
	}
	var long []api.TimetableStep
	for range 20 {
		long = append(long, forward(3), back(3))
	}
	got, e := timetable.CheckWalk(n, [2]int{}, long)
	is(t, got, e, -200)
	got, e = timetable.CheckWalk(n, [2]int{0, 3}, append(long, forward(3)))
	refused(t, "41 steps", got, e, api.ErrLarge)
	// A walk may be checked where there is a cycle.
	got, e = timetable.CheckWalk(circular(), [2]int{1, 2}, []api.TimetableStep{forward(4)})
	is(t, got, e, 30)
}

// P8.3: any steps, by the definitions.
func TestWalksOfAnySteps(t *testing.T) {
	r := rand.New(rand.NewSource(1))
	counts := map[api.Errno]int{}
	for range 20000 {
		n := randomNet(r, 2+r.Intn(3), 5, 4)
		if len(n.Activities) == 0 {
			continue
		}
		var l []api.TimetableStep
		for range 1 + r.Intn(4) {
			l = append(l, api.TimetableStep{Activity: r.Intn(len(n.Activities)), Back: r.Intn(2) == 0})
		}
		a, b := r.Intn(len(n.Events)), r.Intn(len(n.Events))
		length, ok := lengthOf(n, a, b, l)
		got, e := timetable.CheckWalk(n, [2]int{a, b}, l)
		counts[e]++
		if got != length || ok != (e == api.OK) {
			t.Error(n, a, b, l, got, e)
		}
		begin, _ := arcOf(n, l[0])
		length, ok = lengthOf(n, begin.from, begin.from, l)
		got, e = timetable.CheckCycle(n, l)
		if isCycle := ok && length > 0; isCycle != (e == api.OK) || isCycle && got != length || !isCycle && got != 0 {
			t.Error(n, l, got, e)
		}
		if _, wrong := timetable.CheckWalk(n, [2]int{begin.from, b}, l); wrong != api.OK && wrong != api.ErrProof && wrong != e {
			t.Error(n, l, wrong, e) // errors of steps are the same
		}
	}
	for _, e := range []api.Errno{api.OK, api.ErrOpen, api.ErrGap, api.ErrProof} {
		if counts[e] < 100 || len(counts) != 4 {
			t.Error(counts)
		}
	}
}

// P8.3, P8.9: a cycle is found just where there is one, and has at most as many steps as there are events.
func TestFindCycle(t *testing.T) {
	r := rand.New(rand.NewSource(2))
	lengths := map[int]int{}
	for range 3000 {
		n := randomNet(r, 1+r.Intn(16), one(r, 4, 12, 30), one(r, 1, 3, 10, 50000))
		l, e := timetable.FindCycle(n)
		_, isRight := distances(n)
		early, wrong := timetable.Earliest(n, make([]int, len(n.Events)))
		if isRight {
			refused(t, "no cycle", l, e, api.ErrNone)
			if i, broken := timetable.CheckTimes(n, early); wrong != api.OK || broken != api.OK {
				t.Error(n, early, wrong, i, broken)
			}
			continue
		}
		refused(t, "times", early, wrong, api.ErrCycle)
		length, proved := timetable.CheckCycle(n, l)
		if e != api.OK || proved != api.OK || length <= 0 || len(l) > len(n.Events) {
			t.Error(n, l, e, length, proved)
		}
		begin, _ := arcOf(n, l[0])
		if want, ok := lengthOf(n, begin.from, begin.from, l); !ok || length != want {
			t.Error(n, l, length, want)
		}
		lengths[len(l)]++
	}
	if len(lengths) < 6 {
		t.Error(lengths)
	}
}

// P8.3: the longest cycle that there may be.
func TestFindCycleOfAllEvents(t *testing.T) {
	n := net(16)
	for i := range 16 {
		n.Activities = append(n.Activities, from(i, (i+1)%16, 1, open))
	}
	l, e := timetable.FindCycle(n)
	length, proved := timetable.CheckCycle(n, l)
	if e != api.OK || proved != api.OK || length != 16 || len(l) != 16 {
		t.Error(l, e, length, proved)
	}
	n.Activities = n.Activities[:15]
	l, e = timetable.FindCycle(n)
	refused(t, "a chain", l, e, api.ErrNone)
	n.Activities = append(n.Activities, from(0, 15, 1, 14))
	l, e = timetable.FindCycle(n)
	length, proved = timetable.CheckCycle(n, l)
	if e != api.OK || proved != api.OK || length != 1 || len(l) != 16 {
		t.Error(l, e, length, proved)
	}
	n.Activities[15].Most = 15 // a round as long as 0 is no cycle
	l, e = timetable.FindCycle(n)
	refused(t, "a round", l, e, api.ErrNone)
}

// P8.3: the chapter's example 3.
func TestBetweenOfTheExample(t *testing.T) {
	n := example()
	for _, c := range []struct{ a, b, want, steps int }{{0, 3, 30, 1}, {3, 0, -40, 1}, {1, 3, 10, 2}, {0, 2, 15, 2}, {2, 3, 3, 1}, {3, 2, -25, 3}} {
		got, l, e := timetable.Between(n, c.a, c.b)
		is(t, got, e, c.want)
		length, e := timetable.CheckWalk(n, [2]int{c.a, c.b}, l)
		is(t, length, e, c.want)
		if len(l) != c.steps {
			t.Error(c, l)
		}
	}
	for _, pair := range [][2]int{{2, 0}, {2, 1}} { // what is open leads nowhere back, but for a round through d
		got, l, e := timetable.Between(n, pair[0], pair[1])
		length, proved := timetable.CheckWalk(n, pair, l)
		if e != api.OK || proved != api.OK || got != length {
			t.Error(got, l, e, length, proved)
		}
	}
	got, l, e := timetable.Between(net(2, from(0, 1, 1, open)), 1, 0)
	refused(t, "no walk", l, e, api.ErrNone)
	refused(t, "no walk", got, e, api.ErrNone)
	// A cycle anywhere in the net counts.
	apart := net(4, from(0, 1, 1, open), from(2, 3, 2, open), from(2, 3, 1, 1))
	got, l, e = timetable.Between(apart, 0, 1)
	refused(t, "a cycle elsewhere", l, e, api.ErrCycle)
	refused(t, "a cycle elsewhere", got, e, api.ErrCycle)
	got, l, e = timetable.Between(apart, 1, 0)
	refused(t, "a cycle, and no walk", l, e, api.ErrCycle)
	refused(t, "a cycle, and no walk", got, e, api.ErrCycle)
}

// P8.3, P8.11: the greatest length of all walks, with a walk of few steps that has it; times differ by as much at least.
func TestBetween(t *testing.T) {
	r := rand.New(rand.NewSource(3))
	found, missing := 0, 0
	for range 400 {
		n, times := rightNet(r, 2+r.Intn(one(r, 3, 15)), one(r, 4, 12, 30), one(r, 2, 10, 50000))
		d, ok := distances(n)
		if !ok {
			t.Fatal(n)
		}
		for a := range n.Events {
			for b := range n.Events {
				if a == b {
					continue
				}
				got, l, e := timetable.Between(n, a, b)
				if d[a][b] == none {
					refused(t, "length", got, e, api.ErrNone)
					refused(t, "walk", l, e, api.ErrNone)
					missing++
					continue
				}
				found++
				is(t, got, e, d[a][b])
				length, e := timetable.CheckWalk(n, [2]int{a, b}, l)
				is(t, length, e, got)
				if len(l) > len(n.Events)-1 || times[b]-times[a] < got {
					t.Error(n, a, b, got, l, times)
				}
			}
		}
	}
	if found < 1000 || missing < 1000 {
		t.Error(found, missing)
	}
}

// P8.11: right times differ by at least the length of any walk, and Between is no less than it.
func TestWalksInRightTimes(t *testing.T) {
	r := rand.New(rand.NewSource(4))
	for range 500 {
		n, times := rightNet(r, 2+r.Intn(6), 12, 8)
		if len(n.Activities) == 0 {
			continue
		}
		begin, ok := r.Intn(len(n.Events)), false
		end := begin
		var l []api.TimetableStep
		for range 60 {
			s := api.TimetableStep{Activity: r.Intn(len(n.Activities)), Back: r.Intn(2) == 0}
			var x arc
			if x, ok = arcOf(n, s); !ok || x.from != end || len(l) == 40 {
				continue
			}
			end = x.to
			l = append(l, s)
			length, e := timetable.CheckWalk(n, [2]int{begin, end}, l)
			if e != api.OK || times[end]-times[begin] < length {
				t.Error(n, l, length, e, times)
			}
			if begin == end {
				continue
			}
			if most, _, e := timetable.Between(n, begin, end); e != api.OK || most < length {
				t.Error(n, l, most, e, length)
			}
		}
	}
}
