package timetable_test

import (
	"slices"
	"strconv"
	"testing"

	"guideway/api"
	"guideway/timetable"
)

// wrongNet is how a net is made wrong, and its error and mark then.
type wrongNet struct {
	name   string
	change func(*api.TimetableNet)
	mark   api.TimetableMark
	err    api.Errno
}

// badNames are no names.
func badNames() []string {
	return []string{"", "1", "-", "-a", "abcdefghijklm", "a b", "a_", "a.", "ä", "a\n", " a", "a\x00", "[", "`", "{", "@", "a/", "a:", "a[", "a`", "a{", "a@"}
}

// wrongNets are ways to make the example wrong, each list ahead of the next one.
func wrongNets() [][]wrongNet {
	wrong := func(name string, err api.Errno, change func(n *api.TimetableNet)) wrongNet {
		return wrongNet{name, change, api.TimetableMark{}, err}
	}
	lists := [][]wrongNet{
		{
			wrong("no events", api.ErrShape, func(n *api.TimetableNet) { n.Events = nil }),
			wrong("no events, 31 activities", api.ErrShape, func(n *api.TimetableNet) {
				*n = api.TimetableNet{Events: []string{}, Activities: make([]api.TimetableActivity, 31)}
			}),
		},
		{
			wrong("17 events", api.ErrLarge, func(n *api.TimetableNet) { n.Events = append(largest().Events, "q") }),
			wrong("17 events without names", api.ErrLarge, func(n *api.TimetableNet) { n.Events = make([]string, 17) }),
		},
	}
	for i := range 4 {
		mark := api.TimetableMark{List: api.TimetableEvents, Number: i}
		var bad, earlier []wrongNet
		for _, name := range badNames() {
			bad = append(bad, wrongNet{"name " + name, func(n *api.TimetableNet) { n.Events[i] = name }, mark, api.ErrName})
		}
		for k := range i {
			earlier = append(earlier, wrongNet{"name of an earlier one", func(n *api.TimetableNet) { n.Events[i] = n.Events[k] }, mark, api.ErrExists})
		}
		lists = append(lists, bad, earlier)
	}
	lists = append(lists, []wrongNet{
		wrong("31 activities", api.ErrLarge, func(n *api.TimetableNet) { n.Activities = slices.Repeat(n.Activities, 8)[:31] }),
		wrong("31 wrong activities", api.ErrLarge, func(n *api.TimetableNet) { n.Activities = slices.Repeat([]api.TimetableActivity{{Kind: -1}}, 31) }),
	})
	for i := range 4 {
		lists = append(lists, wrongActivities(i)...)
	}
	return lists
}

// wrongActivities are ways to make an activity wrong. Each sets all that it is about, so that those listed ahead stay wrong
// beside those behind.
func wrongActivities(i int) [][]wrongNet {
	var lists [6][]wrongNet
	add := func(list int, name string, err api.Errno, change func(a *api.TimetableActivity)) {
		mark := api.TimetableMark{List: api.TimetableActivities, Number: i}
		w := wrongNet{"activity " + strconv.Itoa(i) + ", " + name, func(n *api.TimetableNet) { change(&n.Activities[i]) }, mark, err}
		lists[list] = append(lists[list], w)
	}
	for _, kind := range outside(0, 4) {
		add(0, "kind", api.ErrKind, func(a *api.TimetableActivity) { a.Kind = kind })
	}
	for _, event := range outside(0, 3) {
		add(1, "from", api.ErrMissing, func(a *api.TimetableActivity) { a.From = event })
		add(1, "to", api.ErrMissing, func(a *api.TimetableActivity) { a.To = event })
		add(1, "both", api.ErrMissing, func(a *api.TimetableActivity) { a.From, a.To = event, event })
	}
	for event := range 4 {
		add(2, "to itself", api.ErrDouble, func(a *api.TimetableActivity) { a.From, a.To = event, event })
	}
	for _, least := range outside(1, 100000) {
		add(3, "least", api.ErrRange, func(a *api.TimetableActivity) { a.Least = least })
		add(3, "least, and open", api.ErrRange, func(a *api.TimetableActivity) { a.Least, a.Most = least, open })
		add(3, "least, and most", api.ErrRange, func(a *api.TimetableActivity) { a.Least, a.Most = least, 100000 })
	}
	for _, most := range []int{0, -2, -100, 100001, outside(0, 0)[2], outside(0, 0)[3]} {
		add(3, "most", api.ErrRange, func(a *api.TimetableActivity) { a.Least, a.Most = 1, most })
		add(3, "most, and great least", api.ErrRange, func(a *api.TimetableActivity) { a.Least, a.Most = 100000, most })
	}
	for _, wait := range outside(0, 100000) {
		add(3, "wait", api.ErrRange, func(a *api.TimetableActivity) { a.Wait = wait })
		add(3, "wait of a connection", api.ErrRange, func(a *api.TimetableActivity) { a.Kind, a.Wait = connect, wait })
	}
	for _, most := range []int{1, 2, 99999} {
		add(4, "order", api.ErrOrder, func(a *api.TimetableActivity) { a.Least, a.Most = most+1, most })
		add(4, "order of the greatest", api.ErrOrder, func(a *api.TimetableActivity) { a.Least, a.Most = 100000, most })
	}
	for _, kind := range []int{run, stop, headway, turn} {
		for _, wait := range []int{1, 4, 100000} {
			add(5, "wait of no connection", api.ErrForm, func(a *api.TimetableActivity) { a.Kind, a.Wait = kind, wait })
		}
	}
	return lists[:]
}

// P8.1: right nets, up to all limits.
func TestCheckNetOfRightNets(t *testing.T) {
	ends := example()
	ends.Events[2] = "Z-0-9-azAZ--"
	ends.Activities[0] = api.TimetableActivity{Kind: turn, From: 3, To: 0, Least: 1, Most: 1}
	ends.Activities[1] = api.TimetableActivity{Kind: connect, From: 1, To: 0, Least: 100000, Most: 100000, Wait: 100000}
	ends.Activities[2] = api.TimetableActivity{Kind: connect, From: 1, To: 0, Least: 100000, Most: open}
	for _, n := range []api.TimetableNet{example(), circular(), largest(), ends, net(1), net(16), net(2, from(1, 0, 1, 100000))} {
		if m, e := timetable.CheckNet(n); m != (api.TimetableMark{}) || e != api.OK {
			t.Error(n, m, e)
		}
	}
}

// P8.1: each error of a net, its mark, and the order of errors.
func TestCheckNet(t *testing.T) {
	lists := wrongNets()
	for i, list := range lists {
		for _, first := range list {
			n := example()
			first.change(&n)
			if m, e := timetable.CheckNet(n); m != first.mark || e != first.err {
				t.Error(first, m, e)
			}
			for _, second := range slices.Concat(lists[i+1:]...) {
				n := example()
				second.change(&n)
				first.change(&n)
				if m, e := timetable.CheckNet(n); m != first.mark || e != first.err {
					t.Error(first, "ahead of", second, m, e)
				}
			}
		}
	}
}

// P8.1: the last event and the last activity are looked at, too.
func TestCheckNetAtTheEnds(t *testing.T) {
	n := largest()
	n.Activities[29].Wait = 1
	if m, e := timetable.CheckNet(n); m != (api.TimetableMark{List: api.TimetableActivities, Number: 29}) || e != api.ErrForm {
		t.Error(m, e)
	}
	n.Events[15] = n.Events[0]
	if m, e := timetable.CheckNet(n); m != (api.TimetableMark{List: api.TimetableEvents, Number: 15}) || e != api.ErrExists {
		t.Error(m, e)
	}
}

// P8.8: a net without each of its activities.
func TestWithout(t *testing.T) {
	for _, n := range []api.TimetableNet{example(), circular(), largest()} {
		for i := range n.Activities {
			got, e := timetable.Without(n, i)
			want := copied(n)
			want.Activities = slices.Delete(want.Activities, i, i+1)
			if !alike(got, want) || e != api.OK {
				t.Error(i, got, e)
			}
		}
	}
	got, e := timetable.Without(net(2, from(0, 1, 1, 1)), 0)
	if !alike(got, net(2)) || e != api.OK {
		t.Error(got, e)
	}
}
