package levitate_test

import (
	"math"
	"math/rand"
	"slices"
	"testing"

	"guideway/api"
	"guideway/levitate"
)

// P2.3: the examples, and boxes that are nearly kept.
func TestCheckBox(t *testing.T) {
	third := twoMaps()
	third.Maps = append(third.Maps, [][]int{{0, 0}, {0, 9}})
	for _, c := range []struct {
		p    api.LevitatePlant
		box  []int
		mark api.LevitateMark
		want api.Errno
	}{
		{small(), []int{6, 4}, at(0, 0), api.OK},
		{small(), []int{5, 4}, at(0, 0), api.ErrBreak},
		{small(), []int{6, 3}, at(0, 1), api.ErrBreak},
		{small(), []int{5, 3}, at(0, 0), api.ErrBreak},
		{small(), []int{7, 4}, at(0, 0), api.OK},
		{small(), []int{11, 5}, at(0, 1), api.ErrBreak},
		{small(), []int{100000, 100000}, at(0, 0), api.OK},
		{twoMaps(), []int{9, 5}, at(0, 0), api.OK},
		{twoMaps(), []int{8, 5}, at(1, 0), api.ErrBreak},
		{twoMaps(), []int{8, 4}, at(0, 1), api.ErrBreak},
		{twoMaps(), []int{9, 3}, at(0, 1), api.ErrBreak},
		{third, []int{9, 5}, at(2, 1), api.ErrBreak},
		{third, []int{10, 10}, at(0, 0), api.OK},
		// with no disturbances and a map of 0
		{single(1, 0, 0), []int{0}, at(0, 0), api.OK},
		{single(1, 0, 1), []int{0}, at(0, 0), api.ErrBreak},
		{single(1, 1, 0), []int{17}, at(0, 0), api.OK},
		{single(1, -1, 0), []int{17}, at(0, 0), api.OK},
		{single(2, -1, 1), []int{1}, at(0, 0), api.ErrBreak},
		{single(2, -1, 1), []int{2}, at(0, 0), api.OK},
		{single(1000, 1000, 0), []int{100000}, at(0, 0), api.OK},
		{single(1, 1000, 10000), []int{100000}, at(0, 0), api.ErrBreak},
	} {
		if m, e := levitate.CheckBox(c.p, c.box); m != c.mark || e != c.want {
			t.Error(c, m, e)
		}
	}
}

// P2.3: the examples; signs, zeros and disturbances of an escape.
func TestEscape(t *testing.T) {
	mixed := api.LevitatePlant{
		Den:   10,
		Maps:  [][][]int{{{0, 0, 0}, {0, 0, 0}, {0, 0, 0}}, {{1, 0, 0}, {-5, 0, 9}, {0, 0, 0}}},
		Noise: []int{2, 3, 4},
	}
	for _, c := range []struct {
		p    api.LevitatePlant
		box  []int
		want api.LevitateEscape
	}{
		{small(), []int{5, 4}, api.LevitateEscape{State: []int{-5, 0}, Sample: sample(0, -3, 0)}},
		{small(), []int{6, 3}, api.LevitateEscape{State: []int{-6, -3}, Sample: sample(0, 0, -1)}},
		{mixed, []int{10, 5, 4}, api.LevitateEscape{State: []int{10, 0, -4}, Sample: sample(1, 0, -3, 0)}},
		{single(10, 10, 0), []int{100000}, api.LevitateEscape{}},
		{twoMaps(), []int{8, 5}, api.LevitateEscape{State: []int{-8, -5}, Sample: sample(1, -3, 0)}},
		{single(1, 0, 1), []int{0}, api.LevitateEscape{State: []int{0}, Sample: sample(0, -1)}},
	} {
		x, e := levitate.Escape(c.p, c.box)
		want := api.OK
		if c.want.State == nil {
			want = api.ErrNone
		}
		if !slices.Equal(x.State, c.want.State) || x.Sample.Map != c.want.Sample.Map || !slices.Equal(x.Sample.Noise, c.want.Sample.Noise) || e != want {
			t.Error(c, x, e)
		}
	}
	for _, box := range [][]int{{6, 4}, {7, 4}, {100000, 100000}} {
		if x, e := levitate.Escape(small(), box); len(x.State)+len(x.Sample.Noise) != 0 || x.Sample.Map != 0 || e != api.ErrNone {
			t.Error(box, x, e)
		}
	}
}

// P2.3
func TestLeastBox(t *testing.T) {
	follows := api.LevitatePlant{Den: 1, Maps: [][][]int{{{0, 1}, {0, 1}}}, Noise: []int{1, 0}}
	for _, c := range []struct {
		p     api.LevitatePlant
		start []int
		want  []int // none: ErrBreak
	}{
		{small(), []int{0, 0}, []int{6, 4}},
		{small(), []int{6, 4}, []int{6, 4}},
		{small(), []int{5, 4}, []int{6, 4}},
		{small(), []int{7, 0}, []int{7, 4}},
		{small(), []int{0, 9}, []int{6, 9}},
		{small(), []int{100000, 0}, []int{100000, 33335}},
		{small(), []int{100000, 100000}, []int{100000, 100000}},
		{twoMaps(), []int{0, 0}, []int{9, 5}},
		{single(1, 0, 0), []int{0}, []int{0}},
		{single(1, 0, 5), []int{3}, []int{5}},
		{single(1, -1, 0), []int{3}, []int{3}},
		{single(1, 1, 1), []int{0}, nil},
		{single(1, -1, 1), []int{0}, nil},
		{single(1, 2, 1), []int{0}, nil},
		{single(1, 2, 0), []int{0}, []int{0}},
		{single(1, 2, 0), []int{1}, nil},
		{single(10, 9, 10000), []int{0}, []int{100000}},
		{single(1000, 1000, 10000), []int{90000}, nil},
		{follows, []int{0, 99999}, []int{100000, 99999}},
		// no box whose numbers are up to MaxLevitateState
		{follows, []int{0, 100000}, nil},
		{single(1000, 901, 10000), []int{0}, nil},
	} {
		box, e := levitate.LeastBox(c.p, c.start)
		want := api.OK
		if c.want == nil {
			want = api.ErrBreak
		}
		if !slices.Equal(box, c.want) || e != want {
			t.Error(c, box, e)
		}
	}
}

// P2.3: the errors of a box.
func TestBoxErrors(t *testing.T) {
	for _, c := range []struct {
		name string
		box  []int
		want api.Errno
	}{
		{"none", nil, api.ErrShape},
		{"a number less", []int{6}, api.ErrShape},
		{"a number more", []int{6, 4, 4}, api.ErrShape},
		{"above", []int{6, 100001}, api.ErrRange},
		{"below 0", []int{-1, 4}, api.ErrRange},
		{"second below 0", []int{6, -1}, api.ErrRange},
		{"least", []int{math.MinInt, 4}, api.ErrRange},
		{"shape, range", []int{-1}, api.ErrShape},
		{"range, not kept", []int{0, 100001}, api.ErrRange},
	} {
		if m, e := levitate.CheckBox(small(), c.box); m != (api.LevitateMark{}) || e != c.want {
			t.Error(c.name, m, e)
		}
		if x, e := levitate.Escape(small(), c.box); len(x.State)+len(x.Sample.Noise) != 0 || x.Sample.Map != 0 || e != c.want {
			t.Error(c.name, x, e)
		}
		if b, e := levitate.LeastBox(small(), c.box); len(b) != 0 || e != c.want {
			t.Error(c.name, b, e)
		}
	}
}

// statesIn is all states in a box.
func statesIn(box []int) [][]int {
	if len(box) == 0 {
		return [][]int{nil}
	}
	var out [][]int
	for _, x := range statesIn(box[:len(box)-1]) {
		for n := -box[len(box)-1]; n <= box[len(box)-1]; n++ {
			out = append(out, append(slices.Clone(x), n))
		}
	}
	return out
}

func isIn(x, box []int) bool {
	for i, n := range x {
		if max(n, -n) > box[i] {
			return false
		}
	}
	return true
}

// leaves tells whether a step by a map leads out of a box, in the number of a row: all states and disturbances are tried.
func leaves(p api.LevitatePlant, box []int, mark api.LevitateMark) bool {
	for _, x := range statesIn(box) {
		for _, noise := range []int{-p.Noise[mark.Row], p.Noise[mark.Row]} {
			s := sample(mark.Map, make([]int, len(box))...)
			s.Noise[mark.Row] = noise
			if n := stepped(p, x, s)[mark.Row]; max(n, -n) > box[mark.Row] {
				return true
			}
		}
	}
	return false
}

// P2.3, P2.9: CheckBox is right just if no step leads out; otherwise its mark is the first one, and Escape leads out.
func TestKeptBoxes(t *testing.T) {
	r := rand.New(rand.NewSource(2))
	kept := 0
	for range 400 {
		p := somePlant(r, 10, 6, 2)
		var box []int
		for range p.Noise {
			box = append(box, between(r, 0, 4))
		}
		want, first := api.OK, api.LevitateMark{}
		for i := range len(p.Maps) * len(box) {
			if mark := at(i/len(box), i%len(box)); leaves(p, box, mark) {
				want, first = api.ErrBreak, mark
				break
			}
		}
		if m, e := levitate.CheckBox(p, box); m != first || e != want {
			t.Fatal(p, box, m, e, first, want)
		}
		x, e := levitate.Escape(p, box)
		if want == api.OK {
			kept++
			if len(x.State) != 0 || e != api.ErrNone {
				t.Fatal(p, box, x, e)
			}
			continue
		}
		if e != api.OK || !isIn(x.State, box) || x.Sample.Map != first.Map {
			t.Fatal(p, box, x, e)
		}
		if y, e := levitate.StepOf(p, x.State, x.Sample); e != api.OK || isIn(y, box) || max(y[first.Row], -y[first.Row]) <= box[first.Row] {
			t.Fatal(p, box, x, y, e)
		}
	}
	if kept < 40 || kept > 360 {
		t.Error(kept)
	}
}

// P2.9: an escape from great boxes leads out of them, too.
func TestEscapesFromGreatBoxes(t *testing.T) {
	r := rand.New(rand.NewSource(3))
	left := 0
	for range 500 {
		den := oneOf(r, 1, api.MaxLevitateDen)
		p := somePlant(r, den, min(den/2+1, api.MaxLevitateEntry), api.MaxLevitateNoise)
		var box []int
		for range p.Noise {
			box = append(box, oneOf(r, 0, api.MaxLevitateState))
		}
		mark, e := levitate.CheckBox(p, box)
		if e == api.OK {
			continue
		}
		left++
		x, e := levitate.Escape(p, box)
		if e != api.OK || !isIn(x.State, box) {
			t.Fatal(p, box, x, e)
		}
		if y := stepped(p, x.State, x.Sample); max(y[mark.Row], -y[mark.Row]) <= box[mark.Row] {
			t.Fatal(p, box, x, y)
		}
	}
	if left < 100 {
		t.Error(left)
	}
}

// P2.9: from a state in a kept box each run stays in it; so that LeastBox is kept.
func TestRunsStayInBoxes(t *testing.T) {
	r := rand.New(rand.NewSource(4))
	found := 0
	for range 300 {
		den := oneOf(r, 1, api.MaxLevitateDen)
		p := somePlant(r, den, min(den/2, api.MaxLevitateEntry), api.MaxLevitateNoise/10)
		box, e := levitate.LeastBox(p, make([]int, len(p.Noise)))
		if e == api.ErrBreak {
			continue
		}
		found++
		if m, e := levitate.CheckBox(p, box); m != (api.LevitateMark{}) || e != api.OK {
			t.Fatal(p, box, m, e)
		}
		var x []int
		for _, most := range box {
			x = append(x, oneOf(r, -most, most))
		}
		for range 20 {
			s := someSample(r, p)
			y, e := levitate.StepOf(p, x, s)
			if e != api.OK || !isIn(y, box) {
				t.Fatal(p, box, x, s, y, e)
			}
			x = y
		}
	}
	if found < 100 {
		t.Error(found)
	}
}

// P2.9: each kept box with numbers at least those of start has no lesser numbers than LeastBox.
func TestLeastBoxIsLeast(t *testing.T) {
	r := rand.New(rand.NewSource(5))
	found := 0
	for range 300 {
		p := somePlant(r, 10, 5, 3)
		start, top := make([]int, len(p.Noise)), make([]int, len(p.Noise))
		for i := range start {
			start[i], top[i] = between(r, 0, 6), 12
		}
		var want []int
		for _, box := range statesIn(top) {
			if slices.Min(box) < 0 || !isIn(start, box) {
				continue
			}
			if _, e := levitate.CheckBox(p, box); e != api.OK {
				continue
			}
			if want == nil {
				want = slices.Clone(box)
			}
			for i := range want {
				want[i] = min(want[i], box[i])
			}
		}
		if want == nil {
			continue
		}
		found++
		if box, e := levitate.LeastBox(p, start); !slices.Equal(box, want) || e != api.OK {
			t.Fatal(p, start, box, e, want)
		}
	}
	if found < 80 {
		t.Error(found)
	}
}
