package levitate_test

import (
	"math"
	"testing"

	"guideway/api"
	"guideway/levitate"
)

type wrongPlant struct {
	name   string
	change func(*api.LevitatePlant)
	mark   api.LevitateMark
	want   api.Errno
}

func at(number, row int) api.LevitateMark { return api.LevitateMark{Map: number, Row: row} }

// wrongPlants are changes of the plant twoMaps, each with the error that CheckPlant finds then.
func wrongPlants() []wrongPlant {
	return []wrongPlant{
		{"Den 0", func(p *api.LevitatePlant) { p.Den = 0 }, at(0, 0), api.ErrRange},
		{"Den below", func(p *api.LevitatePlant) { p.Den = -10 }, at(0, 0), api.ErrRange},
		{"Den above", func(p *api.LevitatePlant) { p.Den = 1001 }, at(0, 0), api.ErrRange},
		{"Den least", func(p *api.LevitatePlant) { p.Den = math.MinInt }, at(0, 0), api.ErrRange},
		{"no noise", func(p *api.LevitatePlant) { p.Noise = nil }, at(0, 0), api.ErrShape},
		{"four numbers", func(p *api.LevitatePlant) { p.Noise = make([]int, 4) }, at(0, 0), api.ErrLarge},
		{"noise below", func(p *api.LevitatePlant) { p.Noise[0] = -1 }, at(0, 0), api.ErrRange},
		{"noise above", func(p *api.LevitatePlant) { p.Noise[1] = 10001 }, at(0, 0), api.ErrRange},
		{"noise least", func(p *api.LevitatePlant) { p.Noise[1] = math.MinInt }, at(0, 0), api.ErrRange},
		{"no maps", func(p *api.LevitatePlant) { p.Maps = nil }, at(0, 0), api.ErrShape},
		{"five maps", func(p *api.LevitatePlant) { p.Maps = make([][][]int, 5) }, at(0, 0), api.ErrLarge},
		{"no rows", func(p *api.LevitatePlant) { p.Maps[1] = nil }, at(1, 0), api.ErrShape},
		{"a row less", func(p *api.LevitatePlant) { p.Maps[1] = p.Maps[1][:1] }, at(1, 0), api.ErrShape},
		{"a row more", func(p *api.LevitatePlant) { p.Maps[0] = append(p.Maps[0], []int{0, 0}) }, at(0, 0), api.ErrShape},
		{"an entry less", func(p *api.LevitatePlant) { p.Maps[0][1] = []int{2} }, at(0, 1), api.ErrShape},
		{"an entry more", func(p *api.LevitatePlant) { p.Maps[1][0] = []int{1, 2, 3} }, at(1, 0), api.ErrShape},
		{"no entries", func(p *api.LevitatePlant) { p.Maps[1][1] = nil }, at(1, 1), api.ErrShape},
		{"entry above", func(p *api.LevitatePlant) { p.Maps[1][1][0] = 1001 }, at(1, 1), api.ErrRange},
		{"entry below", func(p *api.LevitatePlant) { p.Maps[0][0][1] = -1001 }, at(0, 0), api.ErrRange},
		{"entry least", func(p *api.LevitatePlant) { p.Maps[0][1][1] = math.MinInt }, at(0, 1), api.ErrRange},
	}
}

// P2.1
func TestCheckPlantErrors(t *testing.T) {
	for _, x := range wrongPlants() {
		if m, e := levitate.CheckPlant(changed(twoMaps(), x.change)); m != x.mark || e != x.want {
			t.Error(x.name, m, e)
		}
	}
}

// P2.1, R1: what comes first decides.
func TestCheckPlantOrder(t *testing.T) {
	for _, x := range []wrongPlant{
		{"nothing", func(p *api.LevitatePlant) { *p = api.LevitatePlant{} }, at(0, 0), api.ErrRange},
		{"Den, four numbers", func(p *api.LevitatePlant) { p.Den, p.Noise = 0, make([]int, 4) }, at(0, 0), api.ErrRange},
		{"no noise, no rows", func(p *api.LevitatePlant) { p.Noise, p.Maps = nil, [][][]int{{}} }, at(0, 0), api.ErrShape},
		{"no noise, five maps", func(p *api.LevitatePlant) { p.Noise, p.Maps = nil, make([][][]int, 5) }, at(0, 0), api.ErrShape},
		{"four numbers, range of one", func(p *api.LevitatePlant) { p.Noise = []int{-1, 0, 0, 0} }, at(0, 0), api.ErrLarge},
		{"noise, no maps", func(p *api.LevitatePlant) { p.Noise[1], p.Maps = -1, nil }, at(0, 0), api.ErrRange},
		{"noise, a map", func(p *api.LevitatePlant) { p.Noise[1], p.Maps[1] = 10001, nil }, at(0, 0), api.ErrRange},
		{"five maps, the rows of one", func(p *api.LevitatePlant) { p.Maps = append(p.Maps, nil, nil, nil) }, at(0, 0), api.ErrLarge},
		{"entry of the first map, rows of the second", func(p *api.LevitatePlant) { p.Maps[0][1][1], p.Maps[1] = 1001, nil }, at(0, 1), api.ErrRange},
		{"rows, entries", func(p *api.LevitatePlant) { p.Maps[1] = [][]int{{1001}} }, at(1, 0), api.ErrShape},
		{"entry of the first row, shape of the second", func(p *api.LevitatePlant) { p.Maps[1] = [][]int{{0, 1001}, {1}} }, at(1, 0), api.ErrRange},
		{"shape of a row, its entries", func(p *api.LevitatePlant) { p.Maps[1][1] = []int{1001} }, at(1, 1), api.ErrShape},
	} {
		if m, e := levitate.CheckPlant(changed(twoMaps(), x.change)); m != x.mark || e != x.want {
			t.Error(x.name, m, e)
		}
	}
}

// P2.1, R7: the limits are included.
func TestCheckPlantRight(t *testing.T) {
	most := api.LevitatePlant{
		Den:   1000,
		Noise: []int{10000, 0, 10000},
		Maps: [][][]int{
			{{1000, -1000, 1000}, {-1000, 1000, 0}, {0, 0, 0}},
			{{0, 0, 0}, {0, 0, 0}, {0, 0, 0}},
			{{1, 2, 3}, {4, 5, 6}, {7, 8, 9}},
			{{-1000, -1000, -1000}, {-1000, -1000, -1000}, {-1000, -1000, -1000}},
		},
	}
	for _, p := range []api.LevitatePlant{small(), twoMaps(), single(1, 0, 0), single(1, 1000, 10000), most} {
		isPlant(t, p)
	}
}

type called struct {
	zero bool
	err  api.Errno
}

// everyCall calls each function that asks for a plant, and tells whether all results beside the error are zero.
func everyCall(p api.LevitatePlant, x []int, l []api.LevitateSample, form [][]int, rate [2]int, level int) []called {
	var out []called
	one := func(x any, e api.Errno) { out = append(out, called{isZero(x), e}) }
	var s api.LevitateSample
	if len(l) > 0 {
		s = l[0]
	}
	y, e := levitate.StepOf(p, x, s)
	one(y, e)
	run, e := levitate.RunOf(p, x, l)
	one(run, e)
	y, e = levitate.Excursion(p, x, l)
	one(y, e)
	escape, e := levitate.Escape(p, x)
	one(escape.Sample.Map != 0 || len(escape.State)+len(escape.Sample.Noise) > 0, e)
	y, e = levitate.LeastBox(p, x)
	one(y, e)
	n, e := levitate.Worst(p, form)
	one(n, e)
	y, e = levitate.CheckProof(p, api.LevitateProof{Form: form, Rate: rate, Level: level})
	one(y, e)
	n, e = levitate.LeastLevel(p, form, rate)
	one(n, e)
	if m, e := levitate.CheckBox(p, x); e != api.ErrBreak { // it has a mark then
		one(m, e)
	}
	if n, e := levitate.CheckForm(p, form, rate); e != api.ErrBreak { // it has a number then
		one(n, e)
	}
	return out
}

// P1: every function of a plant tells the error of the plant ahead of all others, and nothing beside it.
func TestErrorsOfThePlantComeFirst(t *testing.T) {
	for _, x := range wrongPlants() {
		p := changed(twoMaps(), x.change)
		calls := everyCall(p, []int{-200000}, nil, nil, [2]int{}, -1)
		if len(calls) != 10 {
			t.Error(x.name, calls)
		}
		for i, got := range calls {
			if !got.zero || got.err != x.want {
				t.Error(x.name, i, got)
			}
		}
	}
}

// R2: nothing panics, whatever the arguments are; R1: beside an error all is zero.
func TestNothingPanics(t *testing.T) {
	numbers := []int{math.MinInt, math.MinInt + 1, -100000, -1, 0, 1, 2, 1000, 100000, math.MaxInt}
	plants := []api.LevitatePlant{{}, small(), twoMaps(), single(1, 1, 1), single(math.MinInt, math.MaxInt, 0)}
	for _, x := range wrongPlants() {
		plants = append(plants, changed(twoMaps(), x.change))
	}
	for _, p := range plants {
		for i, n := range numbers {
			for _, m := range numbers {
				states := [][]int{nil, {n}, {n, m}, {n, m, n}, {m, n, m, n}}
				form := [][][]int{nil, {{n}}, {{n, m}, {m, n}}, {{n, m}, {m}}, {{}}}[i%5]
				l := [][]api.LevitateSample{nil, {{Map: n, Noise: []int{m}}}, {{Noise: []int{n, m}}, {Map: 1}}}[i%3]
				for _, x := range states {
					for k, got := range everyCall(p, x, l, form, [2]int{n, m}, n) {
						if got.err != api.OK && !got.zero {
							t.Fatal(p, x, l, form, n, m, k, got)
						}
					}
				}
			}
		}
	}
}

// R3: no function writes into its arguments.
func TestArgumentsStay(t *testing.T) {
	p, x, form := twoMaps(), []int{5, 4}, [][]int{{2, 1}, {1, 2}}
	l := []api.LevitateSample{{Map: 1, Noise: []int{-3, 1}}, {Noise: []int{3, 0}}}
	everyCall(p, x, l, form, [2]int{1, 2}, 1000)
	everyCall(p, x, l, form, [2]int{4, 5}, 100000)
	if !samePlant(p, twoMaps()) || x[0] != 5 || x[1] != 4 || !sameRows(form, [][]int{{2, 1}, {1, 2}}) {
		t.Error(p, x, form)
	}
	if !sameRows([][]int{l[0].Noise, l[1].Noise}, [][]int{{-3, 1}, {3, 0}}) || l[0].Map != 1 || l[1].Map != 0 {
		t.Error(l)
	}
	out := []int{0, 2}
	f := api.LevitateFrame{Factors: []int{300, 100, 200}, Load: 300, Gap: api.Range{Lo: 1, Hi: 1}, Current: 1}
	levitate.Carries(f, out)
	levitate.FewestOut(f)
	states := [][]int{{3, 1}, {2}}
	levitate.FormatStates(states)
	if !sameRows([][]int{out, f.Factors, states[0], states[1]}, [][]int{{0, 2}, {300, 100, 200}, {3, 1}, {2}}) {
		t.Error(out, f, states)
	}
}

// R3: results share no memory with arguments, nor with each other.
func TestResultsAreNew(t *testing.T) {
	p, x, start := twoMaps(), []int{20, -10}, []int{7, 9}
	l := []api.LevitateSample{{Noise: []int{1, -1}}, {Map: 1, Noise: []int{0, 0}}, {Noise: []int{0, 0}}}
	form := [][]int{{1, 0}, {0, 1}}
	calls := []func() [][]int{
		func() [][]int { y, _ := levitate.StepOf(p, x, l[0]); return [][]int{y} },
		func() [][]int { y, _ := levitate.RunOf(p, x, l); return y },
		func() [][]int { y, _ := levitate.Excursion(p, x, nil); return [][]int{y} },
		func() [][]int { y, _ := levitate.LeastBox(p, start); return [][]int{y} },
		func() [][]int { y, _ := levitate.LeastBox(p, []int{100, 100}); return [][]int{y} },
		func() [][]int { y, _ := levitate.Escape(p, []int{1, 1}); return [][]int{y.State, y.Sample.Noise} },
		func() [][]int {
			y, _ := levitate.CheckProof(p, api.LevitateProof{Form: form, Rate: [2]int{1, 2}, Level: 1000})
			return [][]int{y}
		},
		func() [][]int { y, _ := levitate.ParseStates("1 2;3 4;5 6"); return y },
	}
	for i, call := range calls {
		again, kept := call(), copiedRows(call())
		for _, row := range call() {
			for k := range row {
				row[k] = 77
			}
		}
		for k := range again {
			if len(again[k]) == 0 {
				t.Fatal(i, again)
			}
			again[k] = append(again[k], 77)
			kept[k] = append(kept[k], 77)
		}
		if !sameRows(again, kept) || !samePlant(p, twoMaps()) || x[0] != 20 || x[1] != -10 || start[0] != 7 || start[1] != 9 ||
			l[0].Noise[0] != 1 || l[0].Noise[1] != -1 || !sameRows(form, round(2, 1)) {
			t.Error(i, again, kept, p, x, start, l, form)
		}
	}
}
