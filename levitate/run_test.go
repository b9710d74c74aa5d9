package levitate_test

import (
	"math"
	"math/rand"
	"slices"
	"testing"

	"guideway/api"
	"guideway/levitate"
)

func sample(number int, noise ...int) api.LevitateSample {
	return api.LevitateSample{Map: number, Noise: noise}
}

// P2.2: the examples.
func TestSteps(t *testing.T) {
	for _, c := range []struct {
		p    api.LevitatePlant
		x    []int
		s    api.LevitateSample
		want []int
	}{
		{small(), []int{20, -10}, sample(0, 1, -1), []int{11, -1}},
		{small(), []int{-1, 0}, sample(0, 0, 0), []int{-1, -1}},
		{small(), []int{1, 1}, sample(0, 0, 0), []int{0, 0}},
		{small(), []int{0, 0}, sample(0, -3, 1), []int{-3, 1}},
		{small(), []int{-20, 0}, sample(0, 3, 0), []int{-7, -4}},
		{twoMaps(), []int{20, -10}, sample(1, 0, 0), []int{11, -5}},
		{twoMaps(), []int{21, -10}, sample(1, 0, 0), []int{11, -6}},
		{single(1, 1000, 0), []int{100}, sample(0, 0), []int{100000}},
		{single(1000, -1000, 10000), []int{90000}, sample(0, -10000), []int{-100000}},
		{single(1, 0, 0), []int{-100000}, sample(0, 0), []int{0}},
	} {
		if y, e := levitate.StepOf(c.p, c.x, c.s); !slices.Equal(y, c.want) || e != api.OK {
			t.Error(c, y, e)
		}
	}
}

// P2.2: rows are summed over columns, with three numbers.
func TestStepOfThree(t *testing.T) {
	p := api.LevitatePlant{Den: 7, Maps: [][][]int{{{1, 2, 3}, {-4, 5, -6}, {7, 0, 0}}}, Noise: []int{1, 1, 1}}
	// 10 - 40 + 90: 60, 8; -40 - 100 - 180: -320, -46; 70: 10
	if y, e := levitate.StepOf(p, []int{10, -20, 30}, sample(0, 1, 0, -1)); !slices.Equal(y, []int{9, -46, 9}) || e != api.OK {
		t.Error(y, e)
	}
}

// P2.2
func TestRuns(t *testing.T) {
	p, x := small(), []int{20, -10}
	l := []api.LevitateSample{sample(0, 1, -1), sample(0, 0, 0), sample(0, -3, 0)}
	if y, e := levitate.RunOf(p, x, l); !sameRows(y, [][]int{{11, -1}, {5, 1}, {-1, 1}}) || e != api.OK {
		t.Error(y, e)
	}
	if y, e := levitate.Excursion(p, x, l); !slices.Equal(y, []int{20, 10}) || e != api.OK {
		t.Error(y, e)
	}
	// a later state is greater in size than x, below 0 too
	if y, e := levitate.Excursion(p, []int{1, 0}, []api.LevitateSample{sample(0, -3, 1), sample(0, -3, -1), sample(0, 0, 0)}); !slices.Equal(y, []int{5, 2}) || e != api.OK {
		t.Error(y, e)
	}
	if y, e := levitate.RunOf(p, x, nil); len(y) != 0 || e != api.OK {
		t.Error(y, e)
	}
	if y, e := levitate.Excursion(p, x, nil); !slices.Equal(y, []int{20, 10}) || e != api.OK {
		t.Error(y, e)
	}
}

type wrongRun struct {
	name string
	x    []int
	l    []api.LevitateSample
	want api.Errno
}

func checkRuns(t *testing.T, p api.LevitatePlant, c wrongRun) {
	t.Helper()
	if y, e := levitate.RunOf(p, c.x, c.l); len(y) != 0 || e != c.want {
		t.Error(c.name, y, e)
	}
	if y, e := levitate.Excursion(p, c.x, c.l); len(y) != 0 || e != c.want {
		t.Error(c.name, y, e)
	}
	if len(c.l) != 1 {
		return
	}
	if y, e := levitate.StepOf(p, c.x, c.l[0]); len(y) != 0 || e != c.want {
		t.Error(c.name, y, e)
	}
}

// P2.2: errors of states and samples.
func TestRunErrors(t *testing.T) {
	right := []api.LevitateSample{sample(0, 0, 0)}
	many := slices.Repeat(right, 61)
	none := []int{0, 0}
	for _, c := range []wrongRun{
		{"no state", nil, right, api.ErrShape},
		{"a number less", []int{0}, right, api.ErrShape},
		{"a number more", []int{0, 0, 0}, right, api.ErrShape},
		{"number above", []int{100001, 0}, right, api.ErrRange},
		{"number below", []int{0, -100001}, right, api.ErrRange},
		{"number least", []int{0, math.MinInt}, right, api.ErrRange},
		{"no map 2", none, []api.LevitateSample{sample(2, 0, 0)}, api.ErrMissing},
		{"no map -1", none, []api.LevitateSample{sample(-1, 0, 0)}, api.ErrMissing},
		{"no disturbances", none, []api.LevitateSample{sample(1)}, api.ErrShape},
		{"a disturbance less", none, []api.LevitateSample{sample(0, 0)}, api.ErrShape},
		{"a disturbance more", none, []api.LevitateSample{sample(0, 0, 0, 0)}, api.ErrShape},
		{"disturbance above", none, []api.LevitateSample{sample(0, 4, 0)}, api.ErrRange},
		{"disturbance below", none, []api.LevitateSample{sample(0, 0, -2)}, api.ErrRange},
		{"disturbance least", none, []api.LevitateSample{sample(0, math.MinInt, 0)}, api.ErrRange},
		{"61 samples", none, many, api.ErrLarge},
		{"a later sample", none, []api.LevitateSample{sample(0, 0, 0), sample(1, 0, 0), sample(1, 0, 2)}, api.ErrRange},

		{"state, sample", []int{0}, []api.LevitateSample{sample(2, 0, 0)}, api.ErrShape},
		{"state's shape, its numbers", []int{100001}, right, api.ErrShape},
		{"state, 61 samples", []int{0, 100001}, many, api.ErrRange},
		{"61 samples, the first one", none, append([]api.LevitateSample{sample(2, 0, 0)}, many...), api.ErrLarge},
		{"map, shape", none, []api.LevitateSample{sample(2, 9)}, api.ErrMissing},
		{"shape, range", none, []api.LevitateSample{sample(0, 9)}, api.ErrShape},
		{"range of the first, map of the second", none, []api.LevitateSample{sample(0, 9, 0), sample(2, 0, 0)}, api.ErrRange},
	} {
		checkRuns(t, twoMaps(), c)
	}
	if y, e := levitate.RunOf(twoMaps(), none, many[:60]); len(y) != 60 || e != api.OK {
		t.Error(y, e)
	}
	if y, e := levitate.Excursion(twoMaps(), none, many[:60]); !slices.Equal(y, none) || e != api.OK {
		t.Error(y, e)
	}
}

// P2.2: a number behind a step that is too great.
func TestRunBreaks(t *testing.T) {
	p := single(1, 10, 5)
	for _, c := range []struct {
		x     int
		noise int
	}{{10000, 1}, {-10000, -1}, {10001, 0}, {-10001, 5}, {100000, 0}, {-100000, 0}} {
		checkRuns(t, p, wrongRun{"", []int{c.x}, []api.LevitateSample{sample(0, c.noise)}, api.ErrBreak})
	}
	for _, x := range []int{10000, -10000} {
		if y, e := levitate.StepOf(p, []int{x}, sample(0, 0)); !slices.Equal(y, []int{10 * x}) || e != api.OK {
			t.Error(x, y, e)
		}
	}
	// the third state would be too great; the samples are looked at ahead of it
	l := slices.Repeat([]api.LevitateSample{sample(0, 0)}, 3)
	checkRuns(t, p, wrongRun{"third", []int{101}, l, api.ErrBreak})
	checkRuns(t, p, wrongRun{"sample first", []int{101}, append(l, sample(1, 0)), api.ErrMissing})
	// the second number alone, and a run that would come back
	q := api.LevitatePlant{Den: 1, Maps: [][][]int{{{0, 0}, {0, 2}}, {{0, 0}, {0, 0}}}, Noise: []int{0, 0}}
	checkRuns(t, q, wrongRun{"second number", []int{0, 50001}, []api.LevitateSample{sample(0, 0, 0), sample(1, 0, 0)}, api.ErrBreak})
	// the greatest numbers
	most := api.LevitatePlant{Den: 1, Maps: [][][]int{{{1000, 1000, 1000}, {0, 0, 0}, {0, 0, 0}}}, Noise: []int{10000, 0, 0}}
	checkRuns(t, most, wrongRun{"most", []int{100000, 100000, 100000}, []api.LevitateSample{sample(0, 10000, 0, 0)}, api.ErrBreak})
}

// P2.2: as the chapter tells it, of many plants.
func TestRunsOfManyPlants(t *testing.T) {
	r := rand.New(rand.NewSource(1))
	breaks := 0
	for range 500 {
		den := oneOf(r, 1, api.MaxLevitateDen)
		p := somePlant(r, den, min(den, api.MaxLevitateEntry), api.MaxLevitateNoise)
		x := someState(r, len(p.Noise), api.MaxLevitateState)
		var l []api.LevitateSample
		for range between(r, 0, 5) {
			l = append(l, someSample(r, p))
		}
		var want [][]int
		most := slices.Clone(x)
		for i, n := range x {
			most[i] = max(n, -n)
		}
		broken := false
		for at, s := range l {
			last := x
			if at > 0 {
				last = want[at-1]
			}
			next := stepped(p, last, s)
			if broken = !isState(next); broken {
				break
			}
			want = append(want, next)
			for i, n := range next {
				most[i] = max(most[i], n, -n)
			}
		}
		if broken {
			breaks++
			checkRuns(t, p, wrongRun{"random", x, l, api.ErrBreak})
			continue
		}
		if y, e := levitate.RunOf(p, x, l); !sameRows(y, want) || e != api.OK {
			t.Fatal(p, x, l, y, e, want)
		}
		if y, e := levitate.Excursion(p, x, l); !slices.Equal(y, most) || e != api.OK {
			t.Fatal(p, x, l, y, e, most)
		}
	}
	if breaks < 50 || breaks > 450 {
		t.Error(breaks)
	}
}
