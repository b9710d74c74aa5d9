package levitate_test

import (
	"math"
	"math/rand"
	"slices"
	"testing"

	"guideway/api"
	"guideway/levitate"
)

// frame is the frame of the chapter's examples.
func frame() api.LevitateFrame {
	return api.LevitateFrame{Factors: []int{100, 100, 200}, Load: 300, Gap: span(1, 1), Current: 1}
}

type wrongFrame struct {
	name   string
	change func(*api.LevitateFrame)
	number int
	want   api.Errno
}

func wrongFrames() []wrongFrame {
	return []wrongFrame{
		{"no magnets", func(f *api.LevitateFrame) { f.Factors = nil }, 0, api.ErrShape},
		{"nine magnets", func(f *api.LevitateFrame) { f.Factors = make([]int, 9) }, 0, api.ErrLarge},
		{"factor 0", func(f *api.LevitateFrame) { f.Factors[0] = 0 }, 0, api.ErrRange},
		{"factor below", func(f *api.LevitateFrame) { f.Factors[1] = -100 }, 1, api.ErrRange},
		{"factor above", func(f *api.LevitateFrame) { f.Factors[2] = 1000000001 }, 2, api.ErrRange},
		{"load below", func(f *api.LevitateFrame) { f.Load = -1 }, 0, api.ErrRange},
		{"load above", func(f *api.LevitateFrame) { f.Load = 1000001 }, 0, api.ErrRange},
		{"gap 0", func(f *api.LevitateFrame) { f.Gap.Lo = 0 }, 0, api.ErrRange},
		{"gap above", func(f *api.LevitateFrame) { f.Gap.Hi = 3001 }, 0, api.ErrRange},
		{"gap's Lo above", func(f *api.LevitateFrame) { f.Gap.Lo = 3001 }, 0, api.ErrRange},
		{"gap's Hi 0", func(f *api.LevitateFrame) { f.Gap.Hi = 0 }, 0, api.ErrRange},
		{"current below", func(f *api.LevitateFrame) { f.Current = -1 }, 0, api.ErrRange},
		{"current above", func(f *api.LevitateFrame) { f.Current = 1001 }, 0, api.ErrRange},
		{"least", func(f *api.LevitateFrame) { f.Load, f.Current, f.Gap.Lo = math.MinInt, math.MinInt, math.MinInt }, 0, api.ErrRange},
		{"order", func(f *api.LevitateFrame) { f.Gap = span(2, 1) }, 0, api.ErrOrder},

		{"nothing", func(f *api.LevitateFrame) { *f = api.LevitateFrame{} }, 0, api.ErrShape},
		{"two factors", func(f *api.LevitateFrame) { f.Factors[1], f.Factors[2] = 0, 0 }, 1, api.ErrRange},
		{"factor, load", func(f *api.LevitateFrame) { f.Factors[2], f.Load = 0, -1 }, 2, api.ErrRange},
		{"current, order", func(f *api.LevitateFrame) { f.Gap, f.Current = span(2, 1), -1 }, 0, api.ErrRange},
	}
}

// P2.7
func TestFrameErrors(t *testing.T) {
	for _, x := range wrongFrames() {
		f := frame()
		x.change(&f)
		if n, e := levitate.CheckFrame(f); n != x.number || e != x.want {
			t.Error(x.name, n, e)
		}
		if is, e := levitate.Carries(f, []int{9, 9}); is || e != x.want {
			t.Error(x.name, is, e)
		}
		if l, e := levitate.FewestOut(f); len(l) != 0 || e != x.want {
			t.Error(x.name, l, e)
		}
	}
	for _, f := range []api.LevitateFrame{
		frame(),
		{Factors: []int{1}, Gap: span(1, 1)},
		{Factors: slices.Repeat([]int{1000000000}, 8), Load: 1000000, Gap: span(1, 3000), Current: 1000},
		{Factors: []int{1}, Gap: span(3000, 3000)},
	} {
		if n, e := levitate.CheckFrame(f); n != 0 || e != api.OK {
			t.Error(f, n, e)
		}
	}
}

// P2.7
func TestCarries(t *testing.T) {
	one := api.LevitateFrame{Factors: []int{5}, Load: 5, Gap: span(1, 2), Current: 2}
	small := api.LevitateFrame{Factors: []int{1, 1, 1, 1}, Load: 1, Gap: span(1, 2), Current: 1}
	great := api.LevitateFrame{Factors: slices.Repeat([]int{1000000000}, 8), Load: 1000000, Gap: span(1, 3000), Current: 1000}
	none := api.LevitateFrame{Factors: []int{5, 6}, Gap: span(1, 1)}
	for _, c := range []struct {
		f    api.LevitateFrame
		out  []int
		want bool
	}{
		{frame(), nil, true},
		{frame(), []int{0}, true},
		{frame(), []int{1}, true},
		{frame(), []int{2}, false},
		{frame(), []int{0, 1}, false},
		{frame(), []int{0, 1, 2}, false},
		{one, nil, true},
		{one, []int{0}, false},
		{small, []int{}, true}, // a quarter each: forces are not rounded one by one
		{small, []int{3}, false},
		{great, []int{0, 1, 2, 3, 4, 5, 6}, true},
		{great, []int{0, 1, 2, 3, 4, 5, 6, 7}, false},
		{none, []int{0, 1}, true},
	} {
		if is, e := levitate.Carries(c.f, c.out); is != c.want || e != api.OK {
			t.Error(c, is, e)
		}
	}
	wide := frame() // the greatest gap counts, not the least one
	wide.Gap.Hi = 2
	if is, e := levitate.Carries(wide, nil); is || e != api.OK {
		t.Error(is, e)
	}
	wide.Current = 2
	if is, e := levitate.Carries(wide, nil); !is || e != api.OK {
		t.Error(is, e)
	}
}

// P2.7: the errors of magnets that are out.
func TestCarriesErrors(t *testing.T) {
	for _, c := range []struct {
		out  []int
		want api.Errno
	}{
		{[]int{-1}, api.ErrMissing},
		{[]int{3}, api.ErrMissing},
		{[]int{math.MinInt}, api.ErrMissing},
		{[]int{0, 3}, api.ErrMissing},
		{[]int{0, 0}, api.ErrOrder},
		{[]int{2, 0}, api.ErrOrder},
		{[]int{0, 2, 1}, api.ErrOrder},
		{[]int{2, -1}, api.ErrMissing},
		{[]int{1, 0, 3}, api.ErrOrder},
		{[]int{3, 0}, api.ErrMissing},
	} {
		if is, e := levitate.Carries(frame(), c.out); is || e != c.want {
			t.Error(c, is, e)
		}
	}
}

// P2.7
func TestFewestOut(t *testing.T) {
	of := func(load int, factors ...int) api.LevitateFrame {
		return api.LevitateFrame{Factors: factors, Load: load, Gap: span(1, 1), Current: 1}
	}
	for _, c := range []struct {
		f    api.LevitateFrame
		want []int
		err  api.Errno
	}{
		{frame(), []int{2}, api.OK},
		{of(500, 100, 100, 200), nil, api.OK},
		{of(400, 100, 100, 200), []int{0}, api.OK},
		{of(0, 100, 100, 200), nil, api.ErrNone},
		{of(1, 100, 100, 200), []int{0, 1, 2}, api.OK},
		{of(101, 100, 100, 200), []int{0, 2}, api.OK},
		{of(200, 100, 100, 200), []int{0, 2}, api.OK},
		{of(3, 1, 1, 1, 1, 1, 1, 1, 1), []int{0, 1, 2, 3, 4, 5}, api.OK},
		{of(8, 1, 1, 1, 1, 1, 1, 1, 1), []int{0}, api.OK},
		{of(6, 1, 2, 3, 4), []int{0, 3}, api.OK},
		{of(5, 1, 2, 3, 4), []int{1, 3}, api.OK},
	} {
		if l, e := levitate.FewestOut(c.f); !slices.Equal(l, c.want) || e != c.err {
			t.Error(c, l, e)
		}
	}
}

// P2.7, P2.12: FewestOut is the least set; with fewer magnets out a frame is carried, too.
func TestFramesOfMany(t *testing.T) {
	r := rand.New(rand.NewSource(1))
	for range 300 {
		f := api.LevitateFrame{Gap: someSpan(r, 1, 20), Current: between(r, 0, 50)}
		for range between(r, 1, 6) {
			f.Factors = append(f.Factors, between(r, 1, 4)*between(r, 1, 1000))
		}
		f.Load = between(r, 0, 2500)
		var want []int
		err := api.ErrNone
		for _, out := range setsOf(len(f.Factors)) {
			is, e := levitate.Carries(f, out)
			sum := 0
			for i, factor := range f.Factors {
				if !slices.Contains(out, i) {
					sum += factor
				}
			}
			if e != api.OK || is != (times(sum, f.Current, f.Current).Cmp(times(f.Load, f.Gap.Hi, f.Gap.Hi)) >= 0) {
				t.Fatal(f, out, is, e)
			}
			for i := range out {
				if back, _ := levitate.Carries(f, slices.Delete(slices.Clone(out), i, i+1)); is && !back {
					t.Fatal(f, out, i)
				}
			}
			if !is && (err == api.ErrNone || len(out) < len(want) || len(out) == len(want) && slices.Compare(out, want) < 0) {
				want, err = out, api.OK
			}
		}
		if l, e := levitate.FewestOut(f); !slices.Equal(l, want) || e != err {
			t.Fatal(f, l, e, want, err)
		}
	}
}
