package line_test

import (
	"math"
	"math/rand"
	"slices"
	"testing"

	"guideway/api"
	"guideway/line"
)

// P1.4
func TestSurveyed(t *testing.T) {
	l := bending()
	l.Joints[2].Off = api.Range{Lo: -30, Hi: 30} // at 200 across
	for _, x := range []struct {
		found, want api.Range
		err         api.Errno
	}{
		{api.Range{Lo: 205, Hi: 250}, api.Range{Lo: 5, Hi: 30}, api.OK},
		{api.Range{Lo: 100, Hi: 199}, api.Range{Lo: -30, Hi: -1}, api.OK},
		{api.Range{Lo: 198, Hi: 203}, api.Range{Lo: -2, Hi: 3}, api.OK},
		{api.Range{Lo: 0, Hi: 1000}, api.Range{Lo: -30, Hi: 30}, api.OK},
		{api.Range{Lo: math.MinInt, Hi: math.MaxInt}, api.Range{Lo: -30, Hi: 30}, api.OK},
		{api.Range{Lo: 230, Hi: math.MaxInt}, api.Range{Lo: 30, Hi: 30}, api.OK},
		{api.Range{Lo: math.MinInt, Hi: 170}, api.Range{Lo: -30, Hi: -30}, api.OK},
		{api.Range{Lo: 231, Hi: math.MaxInt}, api.Range{}, api.ErrClash},
		{api.Range{Lo: math.MinInt, Hi: 169}, api.Range{}, api.ErrClash},
		{api.Range{Lo: math.MaxInt, Hi: math.MaxInt}, api.Range{}, api.ErrClash},
		{api.Range{Lo: math.MinInt, Hi: math.MinInt}, api.Range{}, api.ErrClash},
		{api.Range{Lo: 5, Hi: 4}, api.Range{}, api.ErrOrder},
		{api.Range{Lo: 201, Hi: 200}, api.Range{}, api.ErrOrder},
	} {
		want := api.LineLine{}
		if x.err == api.OK {
			want = copied(l)
			want.Joints[2].Off = x.want
		}
		if got, e := line.Surveyed(l, 2, x.found); !alike(got, want) || e != x.err {
			t.Error(x, got, e)
		}
	}
	for _, joint := range []int{0, 4} { // the ends may be surveyed, too
		if got, e := line.Surveyed(l, joint, api.Range{Lo: l.Joints[joint].Across, Hi: l.Joints[joint].Across}); got.Joints[joint].Off != (api.Range{}) || e != api.OK {
			t.Error(joint, got, e)
		}
	}
	for _, joint := range []int{-1, 5, math.MinInt, math.MaxInt} {
		if got, e := line.Surveyed(l, joint, api.Range{Lo: 1}); !alike(got, api.LineLine{}) || e != api.ErrMissing {
			t.Error(joint, got, e)
		}
	}
}

// P1.4
func TestWarmed(t *testing.T) {
	l := bending()
	l.Joints[0].Off = api.Range{Lo: -71, Hi: 70}
	l.Joints[1].Off = api.Range{Lo: 80, Hi: 99}
	want := copied(l)
	for i, off := range []api.Range{{Lo: -100, Hi: 100}, {Lo: 50, Hi: 100}, {Lo: -30, Hi: 30}, {Lo: -30, Hi: 30}, {Lo: -34, Hi: 37}} {
		want.Joints[i].Off = off
	}
	if got, e := line.Warmed(l, 30); !alike(got, want) || e != api.OK {
		t.Error(got, e)
	}
	if got, e := line.Warmed(l, 0); !alike(got, l) || e != api.OK {
		t.Error(got, e)
	}
	if got, e := line.Warmed(l, 100); e != api.OK || got.Joints[1].Off != (api.Range{Lo: -20, Hi: 100}) {
		t.Error(got, e)
	}
	for _, by := range []int{-1, 101, math.MinInt, math.MaxInt} {
		if got, e := line.Warmed(l, by); !alike(got, api.LineLine{}) || e != api.ErrRange {
			t.Error(by, got, e)
		}
	}
}

// P1.5
func TestBranch(t *testing.T) {
	l := bending()
	want := copied(l)
	want.Switches = nil
	want.Joints[1].Across = 50
	if got, e := line.Branch(l, "bend"); !alike(got, want) || e != api.OK {
		t.Error(got, e)
	}
	want.Joints[1].Across, want.Joints[2].Across, want.Joints[3].Across = 0, -20000, 20000
	if got, e := line.Branch(l, "by"); !alike(got, want) || e != api.OK {
		t.Error(got, e)
	}
	for _, name := range []string{"", "BY", "b", "by ", "short"} {
		if got, e := line.Branch(l, name); !alike(got, api.LineLine{}) || e != api.ErrMissing {
			t.Error(name, got, e)
		}
	}
	if _, e := line.Branch(short(), "bend"); e != api.ErrMissing {
		t.Error(e)
	}
}

// P1.5
func TestJoined(t *testing.T) {
	a, b := bending(), short()
	b.Name = "other"
	for i := range b.Joints {
		b.Joints[i].Across -= 300
		b.Joints[i].Up -= 50
	}
	b.Joints[0].Off = api.Range{Lo: -20, Hi: 5}
	b.Switches = []api.LineSwitch{{Name: "gone", First: 1, Across: []int{1}}}
	want := api.LineLine{Name: "short", Joints: slices.Clone(a.Joints), Beams: append(slices.Clone(a.Beams), b.Beams...)}
	want.Joints[4].Off = api.Range{Lo: -4, Hi: 5}
	want.Joints = append(want.Joints, b.Joints[1], b.Joints[2])
	if got, e := line.Joined(a, b); !alike(got, want) || e != api.OK {
		t.Error(got, e)
	}
	for _, x := range []struct {
		change func(*api.LineJoint)
		want   api.Errno
	}{
		{func(j *api.LineJoint) { j.Across++ }, api.ErrClash},
		{func(j *api.LineJoint) { j.Up-- }, api.ErrClash},
		{func(j *api.LineJoint) { j.Across, j.Up = j.Up, j.Across }, api.ErrClash},
		{func(j *api.LineJoint) { j.Off = api.Range{Lo: 8, Hi: 9} }, api.ErrClash},
		{func(j *api.LineJoint) { j.Off = api.Range{Lo: -9, Hi: -5} }, api.ErrClash},
		{func(j *api.LineJoint) { j.Off = api.Range{Lo: 7, Hi: 9} }, api.OK},
		{func(j *api.LineJoint) { j.Off = api.Range{Lo: -9, Hi: -4} }, api.OK},
	} {
		c := copied(b)
		x.change(&c.Joints[0])
		if got, e := line.Joined(a, c); e != x.want || e != api.OK && !alike(got, api.LineLine{}) {
			t.Error(c, got, e)
		}
	}
}

// P1.5: the errors of both, and of too many beams.
func TestErrorsOfJoined(t *testing.T) {
	noName, noBeams := short(), short()
	noName.Name = ""
	noBeams.Beams = nil
	if got, e := line.Joined(noName, noBeams); !alike(got, api.LineLine{}) || e != api.ErrName {
		t.Error(got, e)
	}
	if _, e := line.Joined(noBeams, noName); e != api.ErrShape {
		t.Error(e)
	}
	if got, e := line.Joined(short(), noName); !alike(got, api.LineLine{}) || e != api.ErrName {
		t.Error(got, e)
	}
	if got, e := line.Joined(straight(25), straight(16)); !alike(got, api.LineLine{}) || e != api.ErrLarge {
		t.Error(got, e)
	}
	if got, e := line.Joined(straight(25), straight(15)); len(got.Beams) != 40 || len(got.Joints) != 41 || e != api.OK {
		t.Error(got, e)
	}
	far := straight(16)
	far.Joints[0].Up = 1
	if _, e := line.Joined(straight(25), far); e != api.ErrClash {
		t.Error(e)
	}
}

// P1.5
func TestReversed(t *testing.T) {
	want := api.LineLine{
		Name: "short",
		Joints: []api.LineJoint{
			{Across: 300, Up: -50, Off: api.Range{Lo: -7, Hi: 4}}, {Across: -400}, {Across: -200, Up: 100}, {Up: 100}, {},
		},
		Beams:    []api.LineBeam{{Length: 30000, Cant: -300}, {Length: 1000, Cant: 300}, {Length: 10000, Cant: -100}, {Length: 10000}},
		Switches: []api.LineSwitch{{Name: "bend", First: 3, Across: []int{-50}}, {Name: "by", First: 1, Across: []int{-20000, 20000}}},
	}
	if got, e := line.Reversed(bending()); !alike(got, want) || e != api.OK {
		t.Error(got, e)
	}
}

// P1.8: reversed twice a line is as it was.
func TestReversedTwice(t *testing.T) {
	eachLine(t, 20000, func(r *rand.Rand, l api.LineLine) {
		back, e := line.Reversed(l)
		if e != api.OK {
			t.Fatal(l, e)
		}
		if again, e := line.Reversed(back); !alike(again, l) || e != api.OK {
			t.Error(l, back, again, e)
		}
	})
}

// P1.8, P1.5: the branch of a switch turned round is the line turned round, and then the branch.
func TestReversedBranches(t *testing.T) {
	eachLine(t, 20000, func(r *rand.Rand, l api.LineLine) {
		back, _ := line.Reversed(l)
		for _, s := range l.Switches {
			x, e1 := line.Branch(back, s.Name)
			y, e2 := line.Branch(l, s.Name)
			y, e3 := line.Reversed(y)
			if !alike(x, y) || e1 != api.OK || e2 != api.OK || e3 != api.OK {
				t.Error(l, s, x, y, e1, e2, e3)
			}
		}
	})
}

// P1.12: a branch has the length, the gradients and the cants of its line; lines that are joined have both lengths together.
func TestBranchesAndLengths(t *testing.T) {
	eachLine(t, 20000, func(r *rand.Rand, l api.LineLine) {
		length, _ := line.LengthOf(l)
		for _, s := range l.Switches {
			b, e := line.Branch(l, s.Name)
			if n, e2 := line.LengthOf(b); n != length || e != api.OK || e2 != api.OK || !slices.Equal(b.Beams, l.Beams) {
				t.Error(l, s, b, n, e, e2)
			}
			for beam := range l.Beams {
				x, _ := line.GradientOf(l, beam)
				if y, e := line.GradientOf(b, beam); x != y || e != api.OK {
					t.Error(l, s, beam, x, y, e)
				}
			}
		}
		other := someLine(r, 20000)
		other.Joints[0] = l.Joints[len(l.Joints)-1]
		more, _ := line.LengthOf(other)
		both, e := line.Joined(l, other)
		if n, e2 := line.LengthOf(both); n != length+more || e != api.OK || e2 != api.OK {
			t.Error(l, other, n, e, e2)
		}
	})
}
