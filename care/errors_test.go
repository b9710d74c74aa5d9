package care_test

import (
	"slices"
	"strconv"
	"testing"

	"guideway/api"
	"guideway/care"
)

// arguments are those of all functions.
type arguments struct {
	r        api.CareDoors
	place    int
	s        api.CareState
	e        api.CareEvent
	events   []api.CareEvent
	rooms    api.CareRooms
	ticks    int
	times    []int
	record   api.CareRecord
	beams    []int
	work     api.CareWork
	windows  []int
	rescue   api.CareRescue
	depots   []int
	within   int
	findings []api.CareFinding
	limit    int
}

// right are arguments that all functions accept.
func right() arguments {
	return arguments{
		r: doors(), place: 5000, s: shut(5100), e: eventOfDoor(api.CareGate, 1),
		events: []api.CareEvent{eventOfDoor(api.CareGate, 1), eventOfDoor(api.CareOpen, 1), event(api.CareAlarm)},
		rooms:  rooms(), ticks: 6, times: []int{6, 0},
		record: record(), beams: []int{2, 3, 4},
		work: work(), windows: []int{0, 1, 0},
		rescue: rescue(), depots: []int{0, 1, 2}, within: 400,
		findings: findings(), limit: 30,
	}
}

// fault makes arguments wrong.
type fault struct {
	name   string
	change func(*arguments)
	want   api.Errno
}

// function is a function and the faults that it refuses: those of the first list ahead of those of the next one.
type function struct {
	name   string
	call   func(arguments) (any, api.Errno)
	faults [][]fault
}

func functions() []function {
	places := placeFaults()
	doors := doorFaults()
	states := slices.Concat(doors, stateFaults())
	rooms := roomFaults()
	timed := slices.Concat(rooms, tickFaults())
	records := recordFaults()
	works := workFaults()
	rescues := rescueFaults()
	return []function{
		{"CheckDoors", func(a arguments) (any, api.Errno) { return nil, care.CheckDoors(a.r) }, doors},
		{"Begin", func(a arguments) (any, api.Errno) { x, e := care.Begin(a.r, a.place); return x, e }, slices.Concat(doors, places)},
		{"CheckState", func(a arguments) (any, api.Errno) { return nil, care.CheckState(a.r, a.s) }, states},
		{"Apply", func(a arguments) (any, api.Errno) { x, e := care.Apply(a.r, a.s, a.e); return x, e }, slices.Concat(states, eventFaults())},
		{"Replay", func(a arguments) (any, api.Errno) { return replayed(a) }, slices.Concat(doors, places, replayFaults())},
		{"Possible", func(a arguments) (any, api.Errno) { x, e := care.Possible(a.r, a.s, a.place); return x, e }, slices.Concat(states, places)},
		{"CheckRooms", func(a arguments) (any, api.Errno) { _, e := care.CheckRooms(a.rooms); return nil, e }, rooms},
		{"OutBy", func(a arguments) (any, api.Errno) { x, e := care.OutBy(a.rooms, a.ticks); return x, e }, timed},
		{"LeastTime", func(a arguments) (any, api.Errno) { x, e := care.LeastTime(a.rooms, a.ticks); return x, e }, slices.Concat(timed, lateFaults())},
		{"CheckCut", func(a arguments) (any, api.Errno) { x, e := care.CheckCut(a.rooms, a.times, a.ticks); return x, e }, slices.Concat(timed, timeFaults())},
		{"BestCut", func(a arguments) (any, api.Errno) { x, e := care.BestCut(a.rooms, a.ticks); return x, e }, timed},
		{"Suspects", func(a arguments) (any, api.Errno) { x, e := care.Suspects(a.record); return x, e }, records},
		{"LeastFaults", func(a arguments) (any, api.Errno) { x, e := care.LeastFaults(a.record); return x, e }, slices.Concat(records, clearedFaults())},
		{"CheckFaults", func(a arguments) (any, api.Errno) { x, e := care.CheckFaults(a.record, a.beams); return x, e }, slices.Concat(records, beamFaults())},
		{"CheckWork", func(a arguments) (any, api.Errno) { x, e := care.CheckWork(a.work, a.windows); return x, e }, slices.Concat(works, windowFaults())},
		{"FirstWork", func(a arguments) (any, api.Errno) { x, e := care.FirstWork(a.work); return x, e }, slices.Concat(works, fullFaults())},
		{"WorstPlace", func(a arguments) (any, api.Errno) { x, e := care.WorstPlace(a.rescue, a.depots); return x, e }, slices.Concat(rescues, depotFaults())},
		{"FewestDepots", func(a arguments) (any, api.Errno) { x, e := care.FewestDepots(a.rescue, a.within); return x, e }, slices.Concat(rescues, withinFaults())},
		{"OpenOf", func(a arguments) (any, api.Errno) { x, e := care.OpenOf(a.findings, a.limit); return x, e }, findingFaults()},
	}
}

// replayed leaves out the number of an event that is refused: other tests ask for it.
func replayed(a arguments) (any, api.Errno) {
	s, number, e := care.Replay(a.r, a.place, a.events)
	if number != 0 && (e == api.OK || e == api.ErrLarge) {
		return number, e
	}
	return s, e
}

// faultsOf are a fault for each of some numbers.
func faultsOf(name string, err api.Errno, numbers []int, set func(a *arguments, x int)) []fault {
	var list []fault
	for _, x := range numbers {
		list = append(list, fault{name + " " + strconv.Itoa(x), func(a *arguments) { set(a, x) }, err})
	}
	return list
}

func placeFaults() [][]fault {
	return [][]fault{faultsOf("place", api.ErrRange, outside(0, 1000000000), func(a *arguments, x int) { a.place = x })}
}

func doorFaults() [][]fault {
	return [][]fault{slices.Concat(
		faultsOf("doors", api.ErrRange, outside(1, 6), func(a *arguments, x int) { a.r.Doors = x }),
		faultsOf("target", api.ErrRange, outside(0, 1000000000), func(a *arguments, x int) { a.r.Target = x }),
		faultsOf("slack", api.ErrRange, outside(0, 5000), func(a *arguments, x int) { a.r.Slack = x }),
	)}
}

// stateFaults are the errors of a state, each list ahead of the next one.
func stateFaults() [][]fault {
	set := func(name string, err api.Errno, change func(s *api.CareState)) fault {
		return fault{"state, " + name, func(a *arguments) { change(&a.s) }, err}
	}
	return [][]fault{
		faultsOf("state, place", api.ErrRange, outside(0, 1000000000), func(a *arguments, x int) { a.s.Place = x }),
		{
			set("no gates", api.ErrShape, func(s *api.CareState) { s.Gates = nil }),
			set("no doors", api.ErrShape, func(s *api.CareState) { s.Doors = nil }),
			set("a gate less", api.ErrShape, func(s *api.CareState) { s.Gates = []bool{true} }),
			set("a gate more", api.ErrShape, func(s *api.CareState) { s.Gates = []bool{true, false, false} }),
			set("a door less", api.ErrShape, func(s *api.CareState) { s.Doors = []bool{true} }),
			set("a door more", api.ErrShape, func(s *api.CareState) { s.Doors = []bool{true, false, false} }),
			set("one of each more", api.ErrShape, func(s *api.CareState) { s.Gates, s.Doors = make([]bool, 3), make([]bool, 3) }),
		},
		{
			set("a gate open", api.ErrOpen, func(s *api.CareState) { s.Moving, s.Gates[0] = true, true }),
			set("a door open", api.ErrOpen, func(s *api.CareState) { s.Moving, s.Doors[1] = true, true }),
			set("both open", api.ErrOpen, func(s *api.CareState) { s.Moving, s.Gates[1], s.Doors[1] = true, true, true }),
			set("open in an alarm", api.ErrOpen, func(s *api.CareState) { s.Moving, s.Alarm, s.Doors[1] = true, true, true }),
		},
		{
			set("out of place", api.ErrOrder, func(s *api.CareState) { s.Place, s.Gates[1] = 5101, true }),
			set("out of place, with a door", api.ErrOrder, func(s *api.CareState) { s.Place, s.Gates[1], s.Doors[1] = 4899, true, true }),
			set("out of place in an alarm", api.ErrOrder, func(s *api.CareState) { s.Place, s.Alarm, s.Gates[0] = 4899, true, true }),
		},
		{
			set("a door without its gate", api.ErrBusy, func(s *api.CareState) { s.Doors[0] = true }),
			set("another gate", api.ErrBusy, func(s *api.CareState) { s.Doors[1], s.Gates[0] = true, true }),
		},
	}
}

// eventFaults are the errors of an event that are not told by the chapter's table, each list ahead of the next one.
func eventFaults() [][]fault {
	kinds := faultsOf("kind", api.ErrKind, outside(0, 7), func(a *arguments, x int) { a.e.Kind = x })
	var forms, missing []fault
	for kind := range api.CareKinds {
		set := func(name string, err api.Errno, e api.CareEvent) fault {
			e.Kind = kind
			return fault{"event, " + name, func(a *arguments) { a.e = e }, err}
		}
		for _, x := range outside(0, 0) {
			if kind != api.CareStop {
				forms = append(forms, set("place", api.ErrForm, api.CareEvent{Place: x}), set("place and door", api.ErrForm, api.CareEvent{Place: x, Door: x}))
			}
			if kind == api.CareStop || kind == api.CareGo || kind >= api.CareAlarm {
				forms = append(forms, set("door", api.ErrForm, api.CareEvent{Door: x}), set("door and place", api.ErrForm, api.CareEvent{Place: x, Door: x}))
			}
		}
		if kind >= api.CareGate && kind <= api.CareShut {
			for _, x := range outside(0, 1) {
				missing = append(missing, set("door", api.ErrMissing, api.CareEvent{Door: x}))
			}
		}
	}
	stops := faultsOf("event, place", api.ErrRange, outside(0, 1000000000), func(a *arguments, x int) { a.e = stopAt(x) })
	refused := []fault{
		{"stop", func(a *arguments) { a.e = stopAt(5000) }, api.ErrState}, {"bar", func(a *arguments) { a.e = eventOfDoor(api.CareBar, 1) }, api.ErrState},
		{"calm", func(a *arguments) { a.e = event(api.CareCalm) }, api.ErrNone}, {"open", func(a *arguments) { a.e = eventOfDoor(api.CareOpen, 1) }, api.ErrBusy},
	}
	return [][]fault{kinds, forms, stops, missing, refused}
}

func replayFaults() [][]fault {
	wrong := event(-1)
	lists := [][]fault{{
		{"101 events", func(a *arguments) { a.events = slices.Repeat([]api.CareEvent{event(api.CareAlarm)}, 101) }, api.ErrLarge},
		{"101 wrong events", func(a *arguments) { a.events = slices.Repeat([]api.CareEvent{wrong}, 101) }, api.ErrLarge},
	}}
	for i := range 3 {
		lists = append(lists, []fault{
			{"kind " + strconv.Itoa(i), func(a *arguments) { a.events[i] = wrong }, api.ErrKind},
			{"form " + strconv.Itoa(i), func(a *arguments) { a.events[i] = api.CareEvent{Kind: api.CareAlarm, Door: 1} }, api.ErrForm},
			{"place " + strconv.Itoa(i), func(a *arguments) { a.events[i] = stopAt(-1) }, api.ErrRange},
			{"door " + strconv.Itoa(i), func(a *arguments) { a.events[i] = eventOfDoor(api.CareGate, 2) }, api.ErrMissing},
			{"stop " + strconv.Itoa(i), func(a *arguments) { a.events[i] = stopAt(5000) }, api.ErrState},
		})
	}
	return lists
}

// roomFaults are the errors of rooms, each list ahead of the next one.
func roomFaults() [][]fault {
	lists := [][]fault{
		{{"no rooms", func(a *arguments) { a.rooms.People = nil }, api.ErrShape}},
		{
			{"7 rooms", func(a *arguments) { a.rooms.People = make([]int, 7) }, api.ErrLarge},
			{"7 wrong rooms", func(a *arguments) { a.rooms.People = slices.Repeat([]int{-1}, 7) }, api.ErrLarge},
			{"17 ways", func(a *arguments) { a.rooms.Ways = slices.Repeat([]api.CareWay{{To: 1, Most: 1}}, 17) }, api.ErrLarge},
			{"17 wrong ways", func(a *arguments) { a.rooms.Ways = make([]api.CareWay, 17) }, api.ErrLarge},
		},
	}
	for i := range 2 {
		lists = append(lists, faultsOf("people "+strconv.Itoa(i), api.ErrRange, outside(0, 10000), func(a *arguments, x int) { a.rooms.People[i] = x }))
	}
	for i := range 2 {
		way := func(name string, err api.Errno, numbers []int, change func(w *api.CareWay, x int)) []fault {
			return faultsOf("way "+strconv.Itoa(i)+", "+name, err, numbers, func(a *arguments, x int) { change(&a.rooms.Ways[i], x) })
		}
		lists = append(lists,
			slices.Concat(
				way("from", api.ErrMissing, outside(0, 1), func(w *api.CareWay, x int) { w.From = x }),
				way("to", api.ErrMissing, outside(-1, 1), func(w *api.CareWay, x int) { w.To = x }),
				way("both", api.ErrMissing, outside(0, 1), func(w *api.CareWay, x int) { w.From, w.To = x, x }),
			),
			way("the same room", api.ErrClash, []int{0, 1}, func(w *api.CareWay, x int) { w.From, w.To = x, x }),
			way("most", api.ErrRange, outside(1, 10000), func(w *api.CareWay, x int) { w.Most = x }),
		)
	}
	return lists
}

func tickFaults() [][]fault {
	return [][]fault{faultsOf("ticks", api.ErrRange, outside(0, 20), func(a *arguments, x int) { a.ticks = x })}
}

func lateFaults() [][]fault {
	return [][]fault{faultsOf("too few ticks", api.ErrLate, []int{0, 1, 2, 3, 4}, func(a *arguments, x int) { a.ticks = x })}
}

func timeFaults() [][]fault {
	return [][]fault{
		{
			{"no times", func(a *arguments) { a.times = nil }, api.ErrShape},
			{"a time less", func(a *arguments) { a.times = []int{-1} }, api.ErrShape},
			{"a time more", func(a *arguments) { a.times = []int{0, 0, 0} }, api.ErrShape},
		},
		slices.Concat(
			faultsOf("time 0", api.ErrRange, outside(0, 6), func(a *arguments, x int) { a.times[0] = x }),
			faultsOf("time 1", api.ErrRange, outside(0, 6), func(a *arguments, x int) { a.times[1] = x }),
		),
	}
}

// recordFaults are the errors of a record, each list ahead of the next one.
func recordFaults() [][]fault {
	lists := [][]fault{
		faultsOf("beams", api.ErrRange, outside(1, 40), func(a *arguments, x int) { a.record.Beams = x }),
		{
			{"41 readings", func(a *arguments) { a.record.Readings = make([]api.CareReading, 41) }, api.ErrLarge},
			{"41 wrong readings", func(a *arguments) { a.record.Readings = slices.Repeat([]api.CareReading{{From: -1}}, 41) }, api.ErrLarge},
		},
	}
	for i := range 3 {
		set := func(err api.Errno, numbers []int, change func(r *api.CareReading, x int)) []fault {
			return faultsOf("reading "+strconv.Itoa(i), err, numbers, func(a *arguments, x int) { change(&a.record.Readings[i], x) })
		}
		lists = append(lists,
			slices.Concat(
				set(api.ErrMissing, outside(0, 4), func(r *api.CareReading, x int) { r.From = x }),
				set(api.ErrMissing, outside(0, 4), func(r *api.CareReading, x int) { r.To = x }),
			),
			set(api.ErrOrder, []int{1, 2, 3, 4}, func(r *api.CareReading, x int) { r.From, r.To = x, x-1 }),
		)
	}
	return lists
}

// clearedFaults are readings without anything wrong over all beams of a wrong one.
func clearedFaults() [][]fault {
	return [][]fault{{
		{"all is clear", func(a *arguments) { a.record.Readings[0] = api.CareReading{From: 0, To: 4} }, api.ErrNone},
		{"a reading is clear", func(a *arguments) { a.record.Readings[0] = api.CareReading{From: 1, To: 3} }, api.ErrNone},
		{"both are clear", func(a *arguments) { a.record.Readings[0] = api.CareReading{From: 2, To: 4} }, api.ErrNone},
	}}
}

// beamFaults are the errors of beams that are to explain the readings, each list ahead of the next one.
func beamFaults() [][]fault {
	set := func(name string, err api.Errno, beams ...int) fault {
		return fault{"beams, " + name, func(a *arguments) { a.beams = slices.Clone(beams) }, err}
	}
	var missing []fault
	for _, beam := range outside(0, 4) {
		missing = append(missing, set("missing", api.ErrMissing, beam), set("missing behind", api.ErrMissing, 3, beam), set("missing ahead of order", api.ErrMissing, 3, 4, beam, 2))
	}
	return [][]fault{missing, {
		set("twice", api.ErrOrder, 2, 2), set("not ascending", api.ErrOrder, 3, 2), set("order ahead of clash", api.ErrOrder, 3, 1), set("order ahead of missing", api.ErrOrder, 3, 2, 9),
		set("no suspect", api.ErrClash, 0), set("no suspect ahead of one", api.ErrClash, 1, 2), set("clash ahead of order", api.ErrClash, 1, 0), set("clash ahead of missing", api.ErrClash, 0, 9),
		set("none", api.ErrGap), set("one reading alone", api.ErrGap, 4),
	}}
}

// workFaults are the errors of work, each list ahead of the next one.
func workFaults() [][]fault {
	lists := [][]fault{
		{{"no windows", func(a *arguments) { a.work.Windows = nil }, api.ErrShape}},
		{
			{"6 windows", func(a *arguments) { a.work.Windows = make([]int, 6) }, api.ErrLarge},
			{"6 wrong windows", func(a *arguments) { a.work.Windows = slices.Repeat([]int{-1}, 6) }, api.ErrLarge},
			{"7 jobs", func(a *arguments) { a.work.Jobs = slices.Repeat([]api.CareJob{{Hours: 1}}, 7) }, api.ErrLarge},
			{"7 wrong jobs", func(a *arguments) { a.work.Jobs = make([]api.CareJob, 7) }, api.ErrLarge},
		},
	}
	for i := range 2 {
		lists = append(lists, faultsOf("window "+strconv.Itoa(i), api.ErrRange, outside(0, 1000), func(a *arguments, x int) { a.work.Windows[i] = x }))
	}
	for i := range 3 {
		set := func(name string, err api.Errno, numbers []int, change func(j *api.CareJob, x int)) []fault {
			return faultsOf("job "+strconv.Itoa(i)+", "+name, err, numbers, func(a *arguments, x int) { change(&a.work.Jobs[i], x) })
		}
		lists = append(lists,
			set("hours", api.ErrRange, outside(1, 1000), func(j *api.CareJob, x int) { j.Hours = x }),
			slices.Concat(
				set("first", api.ErrMissing, outside(0, 1), func(j *api.CareJob, x int) { j.First = x }),
				set("last", api.ErrMissing, outside(0, 1), func(j *api.CareJob, x int) { j.Last = x }),
			),
			set("order", api.ErrOrder, []int{0}, func(j *api.CareJob, x int) { j.First, j.Last = 1, x }),
		)
	}
	return lists
}

// windowFaults are the errors of windows for the jobs, each list ahead of the next one.
func windowFaults() [][]fault {
	set := func(name string, err api.Errno, windows ...int) fault {
		return fault{"windows, " + name, func(a *arguments) { a.windows = slices.Clone(windows) }, err}
	}
	lists := [][]fault{{set("none", api.ErrShape), set("one less", api.ErrShape, -1, 0), set("one more", api.ErrShape, 0, 0, 0, 9)}, nil}
	for _, window := range outside(0, 1) {
		lists[1] = append(lists[1],
			set("missing", api.ErrMissing, window, 1, 0), set("missing behind", api.ErrMissing, 0, window, 1), set("missing at the end", api.ErrMissing, 0, 1, window),
			set("full ahead of missing", api.ErrFull, 0, 0, window))
	}
	return append(lists, []fault{
		set("late", api.ErrLate, 0, 1, 1), set("late ahead of full", api.ErrLate, 1, 0, 1), set("full", api.ErrFull, 0, 0, 0), set("full ahead of late", api.ErrFull, 1, 1, 1),
	})
}

// fullFaults are windows with too few hours.
func fullFaults() [][]fault {
	return [][]fault{{
		{"an hour less", func(a *arguments) { a.work.Windows = []int{3, 8} }, api.ErrNone},
		{"none", func(a *arguments) { a.work.Windows = []int{0, 0} }, api.ErrNone},
		{"one job", func(a *arguments) { a.work.Jobs[2].Hours = 9 }, api.ErrNone},
	}}
}

// rescueFaults are the errors of a rescue, each list ahead of the next one.
func rescueFaults() [][]fault {
	lists := [][]fault{
		faultsOf("length", api.ErrRange, outside(0, 1000000000), func(a *arguments, x int) { a.rescue.Length = x }),
		{{"no depots", func(a *arguments) { a.rescue.Depots = nil }, api.ErrShape}},
		{
			{"9 depots", func(a *arguments) { a.rescue.Depots = make([]api.CareDepot, 9) }, api.ErrLarge},
			{"9 wrong depots", func(a *arguments) { a.rescue.Depots = slices.Repeat([]api.CareDepot{{Place: -1}}, 9) }, api.ErrLarge},
		},
	}
	for i := range 3 {
		lists = append(lists, slices.Concat(
			faultsOf("place of "+strconv.Itoa(i), api.ErrRange, outside(0, 1000), func(a *arguments, x int) { a.rescue.Depots[i].Place = x }),
			faultsOf("late of "+strconv.Itoa(i), api.ErrRange, outside(0, 1000000000), func(a *arguments, x int) { a.rescue.Depots[i].Late = x }),
		))
	}
	return lists
}

// depotFaults are the errors of some of the depots, each list ahead of the next one.
func depotFaults() [][]fault {
	set := func(name string, err api.Errno, depots ...int) fault {
		return fault{"depots, " + name, func(a *arguments) { a.depots = slices.Clone(depots) }, err}
	}
	var missing []fault
	for _, depot := range outside(0, 2) {
		missing = append(missing, set("missing", api.ErrMissing, depot), set("missing behind", api.ErrMissing, 1, depot), set("missing ahead of order", api.ErrMissing, depot, 1, 1), set("order ahead of missing", api.ErrOrder, 1, 0, depot))
	}
	return [][]fault{{set("none", api.ErrShape)}, missing, {set("twice", api.ErrOrder, 0, 0), set("not ascending", api.ErrOrder, 0, 2, 1)}}
}

func withinFaults() [][]fault {
	return [][]fault{
		faultsOf("within", api.ErrRange, outside(0, 1000000000), func(a *arguments, x int) { a.within = x }),
		faultsOf("within too little", api.ErrNone, []int{349, 0}, func(a *arguments, x int) { a.within = x }),
	}
}

// findingFaults are the errors of findings and a limit, each list ahead of the next one.
func findingFaults() [][]fault {
	lists := [][]fault{{
		{"101 findings", func(a *arguments) { a.findings = slices.Repeat(findings()[:1], 101) }, api.ErrLarge},
		{"101 wrong findings", func(a *arguments) { a.findings = make([]api.CareFinding, 101) }, api.ErrLarge},
	}}
	for i := range 3 {
		set := func(name string, numbers []int, change func(f *api.CareFinding, x int)) []fault {
			return faultsOf("finding "+strconv.Itoa(i)+", "+name, api.ErrRange, numbers, func(a *arguments, x int) { change(&a.findings[i], x) })
		}
		var names []fault
		for _, name := range []string{"", " ", "9a", "-a", "a b", "a_", "abcdefghijklm", "ä", "a\n"} {
			names = append(names, fault{"name " + name, func(a *arguments) { a.findings[i].Name = name }, api.ErrName})
		}
		lists = append(lists, names, slices.Concat(
			set("date", outside(0, 100000), func(f *api.CareFinding, x int) { f.Date = x }),
			set("beam", outside(0, 100000), func(f *api.CareFinding, x int) { f.Beam = x }),
			set("off", outside(-10000, 10000), func(f *api.CareFinding, x int) { f.Off = x }),
		))
	}
	return append(lists, faultsOf("limit", api.ErrRange, outside(0, 10000), func(a *arguments, x int) { a.limit = x }))
}

// P9.1 to P9.7, R1: each error of each function; the one that is listed first counts, whatever is wrong besides.
func TestErrors(t *testing.T) {
	for _, f := range functions() {
		if _, e := f.call(right()); e != api.OK {
			t.Error(f.name, e)
		}
		for i, list := range f.faults {
			for _, first := range list {
				a := right()
				first.change(&a)
				result, e := f.call(a)
				refused(t, f.name+": "+first.name, result, e, first.want)
				for _, second := range slices.Concat(f.faults[i+1:]...) {
					b := right()
					second.change(&b)
					first.change(&b)
					result, e := f.call(b)
					refused(t, f.name+": "+first.name+" ahead of "+second.name, result, e, first.want)
				}
			}
		}
	}
}

// P9.2: beside an error of an event Replay returns its number.
func TestNumberOfReplay(t *testing.T) {
	for i, list := range replayFaults()[1:] {
		for _, x := range list {
			a := right()
			x.change(&a)
			s, number, e := care.Replay(a.r, a.place, a.events)
			if !isZero(s) || number != i || e != x.want {
				t.Error(x.name, s, number, e)
			}
		}
	}
}
