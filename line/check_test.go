package line_test

import (
	"math"
	"slices"
	"testing"

	"guideway/api"
	"guideway/line"
)

type wrongLine struct {
	name   string
	change func(*api.LineLine)
	mark   api.LineMark
	want   api.Errno
}

func joints(n int) api.LineMark   { return api.LineMark{List: api.LineJoints, Number: n} }
func beams(n int) api.LineMark    { return api.LineMark{List: api.LineBeams, Number: n} }
func switches(n int) api.LineMark { return api.LineMark{List: api.LineSwitches, Number: n} }

// wrongLines are changes of the line bending, each with the error that CheckLine finds then.
func wrongLines() []wrongLine {
	itself := api.LineMark{}
	return []wrongLine{
		{"no name", func(l *api.LineLine) { l.Name = "" }, itself, api.ErrName},
		{"13 letters", func(l *api.LineLine) { l.Name = "abcdefghijklm" }, itself, api.ErrName},
		{"digit first", func(l *api.LineLine) { l.Name = "1a" }, itself, api.ErrName},
		{"dash first", func(l *api.LineLine) { l.Name = "-a" }, itself, api.ErrName},
		{"blank", func(l *api.LineLine) { l.Name = "a b" }, itself, api.ErrName},
		{"no ASCII", func(l *api.LineLine) { l.Name = "é" }, itself, api.ErrName},
		{"underscore", func(l *api.LineLine) { l.Name = "a_" }, itself, api.ErrName},
		{"nothing", func(l *api.LineLine) { *l = api.LineLine{Name: "a"} }, itself, api.ErrShape},
		{"no beams", func(l *api.LineLine) { *l = api.LineLine{Name: "a", Joints: l.Joints[:1]} }, itself, api.ErrShape},
		{"a joint less", func(l *api.LineLine) { l.Joints = l.Joints[:4] }, itself, api.ErrShape},
		{"a joint more", func(l *api.LineLine) { l.Joints = append(l.Joints, api.LineJoint{}) }, itself, api.ErrShape},
		{"41 beams", func(l *api.LineLine) { *l = straight(41) }, itself, api.ErrLarge},
		{"Across", func(l *api.LineLine) { l.Joints[2].Across = 20001 }, joints(2), api.ErrRange},
		{"Across below", func(l *api.LineLine) { l.Joints[0].Across = -20001 }, joints(0), api.ErrRange},
		{"Across least", func(l *api.LineLine) { l.Joints[0].Across = math.MinInt }, joints(0), api.ErrRange},
		{"Up", func(l *api.LineLine) { l.Joints[4].Up = 20001 }, joints(4), api.ErrRange},
		{"Up below", func(l *api.LineLine) { l.Joints[4].Up = -20001 }, joints(4), api.ErrRange},
		{"Off.Lo", func(l *api.LineLine) { l.Joints[1].Off.Lo = -101 }, joints(1), api.ErrRange},
		{"Off.Hi", func(l *api.LineLine) { l.Joints[1].Off.Hi = 101 }, joints(1), api.ErrRange},
		{"Off.Lo above all, ahead of the order", func(l *api.LineLine) { l.Joints[1].Off.Lo = 101 }, joints(1), api.ErrRange},
		{"Off", func(l *api.LineLine) { l.Joints[1].Off = api.Range{Lo: 1} }, joints(1), api.ErrOrder},
		{"Length", func(l *api.LineLine) { l.Beams[0].Length = 999 }, beams(0), api.ErrRange},
		{"Length above", func(l *api.LineLine) { l.Beams[3].Length = 30001 }, beams(3), api.ErrRange},
		{"Cant", func(l *api.LineLine) { l.Beams[1].Cant = 301 }, beams(1), api.ErrRange},
		{"Cant below", func(l *api.LineLine) { l.Beams[1].Cant = -301 }, beams(1), api.ErrRange},
		{"five switches", func(l *api.LineLine) { l.Switches = make([]api.LineSwitch, 5) }, itself, api.ErrLarge},
		{"switch's name", func(l *api.LineLine) { l.Switches[1].Name = "by " }, switches(1), api.ErrName},
		{"twice", func(l *api.LineLine) { l.Switches[1].Name = "bend" }, switches(1), api.ErrExists},
		{"bends none", func(l *api.LineLine) { l.Switches[0].Across = nil }, switches(0), api.ErrShape},
		{"first joint", func(l *api.LineLine) { l.Switches[0].First = 0 }, switches(0), api.ErrMissing},
		{"last joint", func(l *api.LineLine) { l.Switches[0].First = 4 }, switches(0), api.ErrMissing},
		{"up to the last joint", func(l *api.LineLine) { l.Switches[1].First = 3 }, switches(1), api.ErrMissing},
		{"least joint", func(l *api.LineLine) { l.Switches[0].First = math.MinInt }, switches(0), api.ErrMissing},
		{"greatest joint", func(l *api.LineLine) { l.Switches[0].First = math.MaxInt }, switches(0), api.ErrMissing},
		{"switch's Across", func(l *api.LineLine) { l.Switches[1].Across[1] = 20001 }, switches(1), api.ErrRange},
		{"switch's Across below", func(l *api.LineLine) { l.Switches[1].Across[0] = -20001 }, switches(1), api.ErrRange},
		{"bent twice", func(l *api.LineLine) { l.Switches[1].First = 1 }, switches(1), api.ErrClash},
		{"bent twice at the end", func(l *api.LineLine) { l.Switches[0].First = 3 }, switches(1), api.ErrClash},
	}
}

// P1.1
func TestCheckLineErrors(t *testing.T) {
	for _, x := range wrongLines() {
		if m, e := line.CheckLine(changed(bending(), x.change)); m != x.mark || e != x.want {
			t.Error(x.name, m, e)
		}
	}
}

// P1.1, R1: what comes first decides.
func TestCheckLineOrder(t *testing.T) {
	for _, x := range []wrongLine{
		{"name, shape", func(l *api.LineLine) { *l = api.LineLine{} }, api.LineMark{}, api.ErrName},
		{"shape, large", func(l *api.LineLine) { *l = straight(41); l.Joints = l.Joints[1:] }, api.LineMark{}, api.ErrShape},
		{"large, joint", func(l *api.LineLine) { *l = straight(41); l.Joints[0].Up = 20001 }, api.LineMark{}, api.ErrLarge},
		{"order of the first joint, range of the second", func(l *api.LineLine) {
			l.Joints[1].Off = api.Range{Lo: 1}
			l.Joints[2].Across = 20001
		}, joints(1), api.ErrOrder},
		{"joint, beam", func(l *api.LineLine) { l.Joints[4].Up, l.Beams[0].Length = 20001, 0 }, joints(4), api.ErrRange},
		{"beam, five switches", func(l *api.LineLine) { l.Beams[3].Cant, l.Switches = 301, make([]api.LineSwitch, 5) }, beams(3), api.ErrRange},
		{"first switch, second switch", func(l *api.LineLine) { l.Switches[0].First, l.Switches[1].Name = 9, "" }, switches(0), api.ErrMissing},
		{"name of a switch, shape", func(l *api.LineLine) { l.Switches[0] = api.LineSwitch{} }, switches(0), api.ErrName},
		{"exists, shape", func(l *api.LineLine) { l.Switches[1] = api.LineSwitch{Name: "bend"} }, switches(1), api.ErrExists},
		{"shape, missing", func(l *api.LineLine) { l.Switches[0] = api.LineSwitch{Name: "a", First: 9} }, switches(0), api.ErrShape},
		{"missing, range", func(l *api.LineLine) { l.Switches[1] = api.LineSwitch{Name: "a", First: 3, Across: []int{20001, 0}} }, switches(1), api.ErrMissing},
		{"range, clash", func(l *api.LineLine) { l.Switches[1] = api.LineSwitch{Name: "a", First: 1, Across: []int{0, 20001}} }, switches(1), api.ErrRange},
	} {
		if m, e := line.CheckLine(changed(bending(), x.change)); m != x.mark || e != x.want {
			t.Error(x.name, m, e)
		}
	}
}

// P1.1, R7: the limits are included.
func TestCheckLineRight(t *testing.T) {
	most := straight(40)
	most.Name = "A-z0123456-9"
	most.Joints[0] = api.LineJoint{Across: 20000, Up: -20000, Off: api.Range{Lo: -100, Hi: 100}}
	most.Joints[40] = api.LineJoint{Across: -20000, Up: 20000, Off: api.Range{Lo: 100, Hi: 100}}
	most.Beams[0] = api.LineBeam{Length: 30000, Cant: 300}
	most.Beams[1] = api.LineBeam{Length: 1000, Cant: -300}
	most.Switches = []api.LineSwitch{
		{Name: "Z", First: 39, Across: []int{20000}},
		{Name: "a", First: 1, Across: []int{-20000, 0}},
		{Name: "a-", First: 3, Across: make([]int, 35)},
		{Name: "A", First: 38, Across: []int{1}},
	}
	empty := straight(1)
	empty.Switches = []api.LineSwitch{}
	for _, l := range []api.LineLine{short(), bending(), straight(1), empty, most} {
		if m, e := line.CheckLine(l); m != (api.LineMark{}) || e != api.OK {
			t.Error(l, m, e)
		}
	}
}

// P1.1
func TestPlaces(t *testing.T) {
	l := bending()
	if n, e := line.LengthOf(l); n != 51000 || e != api.OK {
		t.Error(n, e)
	}
	for joint, want := range []int{0, 10000, 20000, 21000, 51000} {
		if n, e := line.PlaceOf(l, joint); n != want || e != api.OK {
			t.Error(joint, n, e)
		}
	}
	for _, joint := range []int{-1, 5, math.MinInt, math.MaxInt} {
		if n, e := line.PlaceOf(l, joint); n != 0 || e != api.ErrMissing {
			t.Error(joint, n, e)
		}
	}
}

// P1.1
func TestBeamAt(t *testing.T) {
	l := bending()
	for _, x := range []struct{ place, beam, behind int }{
		{0, 0, 0}, {1, 0, 1}, {9999, 0, 9999}, {10000, 1, 0}, {15000, 1, 5000}, {20000, 2, 0}, {20999, 2, 999}, {21000, 3, 0}, {50999, 3, 29999}, {51000, 3, 30000},
	} {
		if beam, behind, e := line.BeamAt(l, x.place); beam != x.beam || behind != x.behind || e != api.OK {
			t.Error(x, beam, behind, e)
		}
	}
	if beam, behind, e := line.BeamAt(straight(1), 1000); beam != 0 || behind != 1000 || e != api.OK {
		t.Error(beam, behind, e)
	}
	for _, place := range []int{-1, 51001, math.MinInt, math.MaxInt} {
		if beam, behind, e := line.BeamAt(l, place); beam != 0 || behind != 0 || e != api.ErrRange {
			t.Error(place, beam, behind, e)
		}
	}
}

// P1.1
func TestAcrossAndUpAt(t *testing.T) {
	l := bending()
	for _, x := range []struct {
		place      int
		across, up api.Frac
	}{
		{0, api.Frac{Num: 0, Den: 1}, api.Frac{Num: 0, Den: 1}},
		{5000, api.Frac{Num: 0, Den: 1}, api.Frac{Num: 50, Den: 1}},
		{15000, api.Frac{Num: 100, Den: 1}, api.Frac{Num: 100, Den: 1}},
		{15025, api.Frac{Num: 201, Den: 2}, api.Frac{Num: 100, Den: 1}},
		{20999, api.Frac{Num: 1999, Den: 5}, api.Frac{Num: 1, Den: 10}},
		{21001, api.Frac{Num: 11999300, Den: 30000}, api.Frac{Num: -1, Den: 600}},
		{51000, api.Frac{Num: -300, Den: 1}, api.Frac{Num: -50, Den: 1}},
	} {
		x.across = lowest(x.across)
		if a, e := line.AcrossAt(l, x.place); a != x.across || e != api.OK {
			t.Error(x, a, e)
		}
		if u, e := line.UpAt(l, x.place); u != x.up || e != api.OK {
			t.Error(x, u, e)
		}
	}
	for _, place := range []int{-1, 51001} {
		if a, e := line.AcrossAt(l, place); a != (api.Frac{}) || e != api.ErrRange {
			t.Error(place, a, e)
		}
		if u, e := line.UpAt(l, place); u != (api.Frac{}) || e != api.ErrRange {
			t.Error(place, u, e)
		}
	}
}

func lowest(x api.Frac) api.Frac {
	r := ratOf(x)
	return api.Frac{Num: int(r.Num().Int64()), Den: int(r.Denom().Int64())}
}

// P1.1, R7: an extreme place across.
func TestAcrossAtIsSmall(t *testing.T) {
	l := straight(1)
	l.Beams[0].Length = 29989 // a prime
	l.Joints = []api.LineJoint{{Across: 20000}, {Across: 19999}}
	if a, e := line.AcrossAt(l, 1); a != (api.Frac{Num: 20000*29989 - 1, Den: 29989}) || e != api.OK {
		t.Error(a, e)
	}
}

// P1.7: a joint's place has its Across and Up; between neighbours, numbers lie between theirs.
func TestAlongTheBeams(t *testing.T) {
	l := bending()
	places := placesOf(l)
	for i, j := range l.Joints {
		if a, e := line.AcrossAt(l, places[i]); a != (api.Frac{Num: j.Across, Den: 1}) || e != api.OK {
			t.Error(i, a, e)
		}
		if u, e := line.UpAt(l, places[i]); u != (api.Frac{Num: j.Up, Den: 1}) || e != api.OK {
			t.Error(i, u, e)
		}
	}
	for place := 0; place <= 51000; place += 77 {
		i, _, _ := line.BeamAt(l, place)
		a, e1 := line.AcrossAt(l, place)
		u, e2 := line.UpAt(l, place)
		if e1 != api.OK || e2 != api.OK || !isLowest(a) || !isLowest(u) {
			t.Fatal(place, a, u, e1, e2)
		}
		first, second := l.Joints[i], l.Joints[i+1]
		isBetween(t, a, first.Across, second.Across)
		isBetween(t, u, first.Up, second.Up)
	}
}

func isBetween(t *testing.T, x api.Frac, a, b int) {
	t.Helper()
	if ratOf(x).Cmp(rat(min(a, b), 1)) < 0 || ratOf(x).Cmp(rat(max(a, b), 1)) > 0 {
		t.Error(x, a, b)
	}
}

// P1: every function of a line tells the error of the line ahead of all others.
func TestErrorsOfTheLineComeFirst(t *testing.T) {
	for _, x := range wrongLines() {
		l := changed(bending(), x.change)
		for i, got := range everyCall(l, -1, -1, api.LineVehicle{}, api.Range{Lo: 1}, "") {
			if !got.zero || got.err != x.want {
				t.Error(x.name, i, got)
			}
		}
	}
}

type called struct {
	zero bool
	err  api.Errno
}

// everyCall calls each function that asks for a line, and tells whether all results beside the error are zero.
func everyCall(l api.LineLine, number, place int, v api.LineVehicle, found api.Range, name string) []called {
	var out []called
	one := func(x any, e api.Errno) { out = append(out, called{isZero(x), e}) }
	n, e := line.LengthOf(l)
	one(n, e)
	n, e = line.PlaceOf(l, number)
	one(n, e)
	n, behind, e := line.BeamAt(l, place)
	one([2]int{n, behind}, e)
	x, e := line.AcrossAt(l, place)
	one(x, e)
	x, e = line.UpAt(l, place)
	one(x, e)
	x, e = line.GradientOf(l, number)
	one(x, e)
	n, x, e = line.SteepestOf(l)
	one([3]int{n, x.Num, x.Den}, e)
	x, e = line.BendAt(l, number)
	one(x, e)
	n, e = line.LimitAt(l, place, number)
	one(n, e)
	limits, e := line.LimitsOf(l, place)
	one(limits, e)
	r, e := line.DeviationAt(l, v, [2]int{place, number})
	one(r, e)
	n, e = line.ClearAt(l, v, place)
	one(n, e)
	u, e := line.FirstUnclear(l, v)
	one(u, e)
	o, e := line.Surveyed(l, number, found)
	one(o, e)
	o, e = line.Warmed(l, place)
	one(o, e)
	o, e = line.Branch(l, name)
	one(o, e)
	o, e = line.Joined(l, api.LineLine{})
	one(o, e)
	o, e = line.Reversed(l)
	one(o, e)
	s, e := line.Print(l)
	one(s, e)
	return out
}

// R2: nothing panics, whatever the arguments are; R1: beside an error all is zero.
func TestNothingPanics(t *testing.T) {
	numbers := []int{math.MinInt, math.MinInt + 1, -30000, -1, 0, 1, 2, 3, 4, 5, 10000, 51000, math.MaxInt - 1, math.MaxInt}
	lines := []api.LineLine{{}, short(), bending(), straight(1), straight(40), straight(41)}
	for _, x := range wrongLines() {
		lines = append(lines, changed(bending(), x.change))
	}
	for _, l := range lines {
		for i, n := range numbers {
			for k, p := range numbers {
				v := api.LineVehicle{Length: numbers[(i+3)%len(numbers)], Clear: p, Step: n}
				if (i+k)%2 == 0 {
					v = api.LineVehicle{Length: 10000, Clear: 40, Step: 2500}
				}
				for at, got := range everyCall(l, n, p, v, api.Range{Lo: n, Hi: p}, "bend") {
					if got.err != api.OK && !got.zero {
						t.Fatal(l, n, p, v, at, got)
					}
				}
			}
		}
	}
}

// R3: no function writes into its arguments.
func TestArgumentsStay(t *testing.T) {
	l := bending()
	kept := copied(l)
	v := api.LineVehicle{Length: 10000, Clear: 40, Step: 2500}
	everyCall(l, 1, 5000, v, api.Range{Lo: -5, Hi: 5}, "by")
	everyCall(l, 1, 50, v, api.Range{Lo: -5, Hi: 5}, "bend")
	if _, e := line.Joined(l, reversedTo(t, l)); e != api.OK {
		t.Error(e)
	}
	if _, e := line.CheckLine(l); e != api.OK || !alike(l, kept) {
		t.Error(l, e)
	}
}

// reversedTo is a line that may be joined to l: its first joint is l's last one.
func reversedTo(t *testing.T, l api.LineLine) api.LineLine {
	t.Helper()
	b, e := line.Reversed(l)
	if e != api.OK {
		t.Fatal(e)
	}
	b.Switches = nil
	b.Joints[0] = l.Joints[len(l.Joints)-1]
	return b
}

// R3: results share no memory with arguments, nor with each other.
func TestResultsAreNew(t *testing.T) {
	l := bending()
	l.Joints[4].Off = api.Range{}
	back := reversedTo(t, l)
	for i, call := range []func() (api.LineLine, api.Errno){
		func() (api.LineLine, api.Errno) { return line.Surveyed(l, 1, api.Range{}) },
		func() (api.LineLine, api.Errno) { return line.Warmed(l, 5) },
		func() (api.LineLine, api.Errno) { return line.Branch(l, "by") },
		func() (api.LineLine, api.Errno) { return line.Joined(l, back) },
		func() (api.LineLine, api.Errno) { return line.Joined(back, l) },
		func() (api.LineLine, api.Errno) { return line.Reversed(l) },
	} {
		keptLine, keptBack := copied(l), copied(back)
		out, e := call()
		again, _ := call()
		if e != api.OK {
			t.Fatal(i, e)
		}
		kept := copied(again)
		scribble(&out)
		if !alike(l, keptLine) || !alike(back, keptBack) || !alike(again, kept) {
			t.Error(i, l, back, again)
		}
		grown := copied(again)
		for k := range again.Switches {
			again.Switches[k].Across = append(again.Switches[k].Across, 77)
			grown.Switches[k].Across = append(slices.Clone(grown.Switches[k].Across), 77)
		}
		if !alike(again, grown) {
			t.Error(i, again, grown)
		}
	}
}

func scribble(l *api.LineLine) {
	for i := range l.Joints {
		l.Joints[i].Up = 9
	}
	for i := range l.Beams {
		l.Beams[i].Cant = 9
	}
	for i := range l.Switches {
		for k := range l.Switches[i].Across {
			l.Switches[i].Across[k] = 9
		}
		l.Switches[i].Name = "scribbled"
	}
	l.Joints = append(l.Joints, api.LineJoint{Up: 8})
	l.Beams = append(l.Beams, api.LineBeam{Cant: 8})
}
