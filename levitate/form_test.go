package levitate_test

import (
	"math"
	"math/rand"
	"testing"

	"guideway/api"
	"guideway/levitate"
)

type wrongForm struct {
	name string
	form [][]int
	want api.Errno
}

// wrongForms are forms with an error of their own.
func wrongForms() []wrongForm {
	return []wrongForm{
		{"none", nil, api.ErrShape},
		{"four rows", round(4, 1), api.ErrLarge},
		{"an entry less", [][]int{{1, 0}, {0}}, api.ErrShape},
		{"an entry more", [][]int{{1, 0, 0}, {0, 1}}, api.ErrShape},
		{"no entries", [][]int{{}}, api.ErrShape},
		{"entry above", [][]int{{10001}}, api.ErrRange},
		{"entry below", [][]int{{1, -10001}, {-10001, 1}}, api.ErrRange},
		{"last entry", [][]int{{1, 0}, {0, 10001}}, api.ErrRange},
		{"entry least", [][]int{{math.MinInt, 0}, {0, 1}}, api.ErrRange},
		{"not that of the other row", [][]int{{1, 2}, {3, 4}}, api.ErrForm},
		{"the opposite", [][]int{{1, 2}, {-2, 4}}, api.ErrForm},
		{"last pair", [][]int{{1, 2, 3}, {2, 4, 5}, {3, 6, 7}}, api.ErrForm},

		{"four rows, shape", [][]int{{1}, {1}, {1}, {1}}, api.ErrLarge},
		{"shape of a later row, range of an earlier one", [][]int{{10001, 0}, {0}}, api.ErrShape},
		{"shape of a later row, form of an earlier one", [][]int{{1, 5, 0}, {0, 1, 0}, {0, 0}}, api.ErrShape},
		{"form, range of a later entry", [][]int{{1, 2}, {3, 10001}}, api.ErrForm},
		{"range, form of a later entry", [][]int{{10001, 2}, {3, 1}}, api.ErrRange},
		{"an entry's range, its form", [][]int{{1, 10001}, {2, 1}}, api.ErrRange},
		{"an entry's form, the range of the other one", [][]int{{1, 2}, {10001, 1}}, api.ErrForm},
	}
}

// P2.4: the errors of a form.
func TestFormErrors(t *testing.T) {
	p := single(10, 5, 1)
	for _, x := range wrongForms() {
		if is, e := levitate.IsPositive(x.form); is || e != x.want {
			t.Error(x.name, is, e)
		}
		if n, e := levitate.ValueOf(x.form, nil); n != 0 || e != x.want {
			t.Error(x.name, n, e)
		}
		if n, e := levitate.Worst(p, x.form); n != 0 || e != x.want {
			t.Error(x.name, n, e)
		}
		if n, e := levitate.CheckForm(p, x.form, [2]int{1, 0}); n != 0 || e != x.want {
			t.Error(x.name, n, e)
		}
		if l, e := levitate.CheckProof(p, api.LevitateProof{Form: x.form, Level: -1}); len(l) != 0 || e != x.want {
			t.Error(x.name, l, e)
		}
		if n, e := levitate.LeastLevel(p, x.form, [2]int{1, 0}); n != 0 || e != x.want {
			t.Error(x.name, n, e)
		}
	}
}

// P2.4: further errors of ValueOf.
func TestValueErrors(t *testing.T) {
	for _, c := range []struct {
		name string
		x    []int
		want api.Errno
	}{
		{"none", nil, api.ErrShape},
		{"a number less", []int{1}, api.ErrShape},
		{"a number more", []int{1, 2, 3}, api.ErrShape},
		{"above", []int{0, 100001}, api.ErrRange},
		{"below", []int{-100001, 0}, api.ErrRange},
		{"least", []int{math.MinInt, 0}, api.ErrRange},
		{"shape, range", []int{100001}, api.ErrShape},
	} {
		if n, e := levitate.ValueOf(round(2, 1), c.x); n != 0 || e != c.want {
			t.Error(c.name, n, e)
		}
	}
}

// P2.4, P2.5: a form that has not as many rows as the plant has numbers, a wrong rate, and what comes ahead of what.
func TestRateErrors(t *testing.T) {
	for _, c := range []struct {
		name string
		form [][]int
		rate [2]int
		want api.Errno
	}{
		{"a row less", round(1, 1), [2]int{1, 2}, api.ErrClash},
		{"a row more", round(3, 1), [2]int{1, 2}, api.ErrClash},
		{"a row less, and a wrong rate", round(1, 1), [2]int{1, 0}, api.ErrClash},
		{"den 0", round(2, 1), [2]int{0, 0}, api.ErrRange},
		{"den below", round(2, 1), [2]int{-1, -1}, api.ErrRange},
		{"den above", round(2, 1), [2]int{1, 1001}, api.ErrRange},
		{"num below", round(2, 1), [2]int{-1, 2}, api.ErrRange},
		{"num above den", round(2, 1), [2]int{3, 2}, api.ErrRange},
		{"least", round(2, 1), [2]int{math.MinInt, 2}, api.ErrRange},
		{"greatest", round(2, 1), [2]int{math.MaxInt, math.MaxInt}, api.ErrRange},
		{"range, not positive", round(2, 0), [2]int{3, 2}, api.ErrRange},
		{"not positive", round(2, 0), [2]int{1, 2}, api.ErrProof},
		{"not positive, and not lessened", round(2, -1), [2]int{1, 5}, api.ErrProof},
		{"not lessened", round(2, 1), [2]int{1, 5}, api.ErrBreak},
	} {
		if n, e := levitate.CheckForm(small(), c.form, c.rate); n != 0 || e != c.want {
			t.Error(c.name, n, e)
		}
		if n, e := levitate.LeastLevel(small(), c.form, c.rate); n != 0 || e != c.want {
			t.Error(c.name, n, e)
		}
		if l, e := levitate.CheckProof(small(), api.LevitateProof{Form: c.form, Rate: c.rate, Level: -1}); len(l) != 0 || e != c.want {
			t.Error(c.name, l, e)
		}
		if n, e := levitate.Worst(small(), c.form); c.want == api.ErrClash && (n != 0 || e != api.ErrClash) {
			t.Error(c.name, n, e)
		}
	}
}

// P2.4
func TestIsPositive(t *testing.T) {
	for _, c := range []struct {
		form [][]int
		want bool
	}{
		{round(1, 1), true},
		{round(2, 1), true},
		{round(3, 10000), true},
		{round(1, 0), false},
		{round(1, -1), false},
		{round(2, -1), false},
		{round(3, -1), false},
		{[][]int{{1, 2}, {2, 4}}, false},
		{[][]int{{1, 2}, {2, 5}}, true},
		{[][]int{{1, 2}, {2, 3}}, false},
		{[][]int{{5, -2}, {-2, 1}}, true},
		{[][]int{{0, 0}, {0, 1}}, false},
		{[][]int{{0, 1}, {1, 0}}, false},
		{[][]int{{1, 0, 0}, {0, 1, 0}, {0, 0, 0}}, false},
		{[][]int{{1, 0, 0}, {0, 0, 0}, {0, 0, 1}}, false},
		{[][]int{{-1, 0, 0}, {0, -1, 0}, {0, 0, 1}}, false},
		{[][]int{{2, 1, 1}, {1, 2, 1}, {1, 1, 2}}, true},
		{[][]int{{2, -1, 0}, {-1, 2, -1}, {0, -1, 2}}, true},
		{[][]int{{1, 1, 0}, {1, 2, 1}, {0, 1, 1}}, false},
		{[][]int{{10000, 9999, 9999}, {9999, 10000, 9999}, {9999, 9999, 10000}}, true},
		{[][]int{{10000, -9999, -9999}, {-9999, 10000, -9999}, {-9999, -9999, 10000}}, false},
	} {
		if is, e := levitate.IsPositive(c.form); is != c.want || e != api.OK {
			t.Error(c, is, e)
		}
	}
}

// P2.4: as the chapter tells it, of many forms.
func TestIsPositiveOfManyForms(t *testing.T) {
	r := rand.New(rand.NewSource(1))
	positive := 0
	for i := range 2000 {
		most := []int{2, 5, 100, api.MaxLevitateForm}[i%4]
		form := someForm(r, between(r, 1, 3), most/2, -most/4, most)
		is, e := levitate.IsPositive(form)
		if is != isPositive(form) || e != api.OK {
			t.Fatal(form, is, e)
		}
		if is {
			positive++
		}
	}
	if positive < 300 || positive > 1700 {
		t.Error(positive)
	}
}

// P2.4
func TestValueOf(t *testing.T) {
	for _, c := range []struct {
		form [][]int
		x    []int
		want int
	}{
		{round(2, 1), []int{20, -10}, 500},
		{round(2, 1), []int{0, 0}, 0},
		{[][]int{{1, 2}, {2, 3}}, []int{10, -1}, 63},
		{[][]int{{-4}}, []int{3}, -36},
		{[][]int{{0, 1, 0}, {1, 0, 5}, {0, 5, 2}}, []int{1, 2, 3}, 82},
		{[][]int{{10000, 10000, 10000}, {10000, 10000, 10000}, {10000, 10000, 10000}}, []int{100000, 100000, 100000}, 900000000000000},
		{[][]int{{-10000, -10000}, {-10000, -10000}}, []int{-100000, -100000}, -400000000000000},
	} {
		if n, e := levitate.ValueOf(c.form, c.x); n != c.want || e != api.OK {
			t.Error(c, n, e)
		}
	}
	r := rand.New(rand.NewSource(2))
	for range 300 {
		form := someForm(r, between(r, 1, 3), 10000, -10000, 10000)
		x := someState(r, len(form), api.MaxLevitateState)
		if n, e := levitate.ValueOf(form, x); bigOf(n).Cmp(valueOf(form, x)) != 0 || e != api.OK {
			t.Fatal(form, x, n, e)
		}
	}
}

// P2.4: rounding counts: the worst disturbance has 1 more than Noise.
func TestWorst(t *testing.T) {
	for _, c := range []struct {
		p    api.LevitatePlant
		form [][]int
		want int
	}{
		{small(), round(2, 1), 20},
		{small(), [][]int{{1, 1}, {1, 1}}, 36},
		{small(), [][]int{{1, -1}, {-1, 1}}, 36},
		{small(), [][]int{{2, -1}, {-1, 3}}, 60},
		{small(), round(2, -1), -20},
		{small(), round(2, 0), 0},
		{single(1, 0, 0), round(1, 1), 1},
		{single(1, 0, 10000), round(1, 10000), 1000200010000},
		{single(1, 0, 10000), round(1, -10000), -1000200010000},
	} {
		if n, e := levitate.Worst(c.p, c.form); n != c.want || e != api.OK {
			t.Error(c, n, e)
		}
	}
	r := rand.New(rand.NewSource(3))
	for range 500 {
		p := somePlant(r, 10, 10, api.MaxLevitateNoise)
		form := someForm(r, len(p.Noise), 10000, -10000, 10000)
		if n, e := levitate.Worst(p, form); bigOf(n).Cmp(worstOf(p, form)) != 0 || e != api.OK {
			t.Fatal(p, form, n, e)
		}
	}
}

// flat is a map that takes all states to the multiples of a vector: its images have only one minor that is not 0.
func flat(u, v []int, times int) [][]int {
	var rows [][]int
	for _, a := range u {
		var row []int
		for _, b := range v {
			row = append(row, a*b*times)
		}
		rows = append(rows, row)
	}
	return rows
}

// P2.4
func TestCheckForm(t *testing.T) {
	turn := api.LevitatePlant{Den: 5, Maps: [][][]int{{{3, 4}, {-4, 3}}}, Noise: []int{0, 0}}
	// as many sizes as Den: 987 is 47 times 3 times 7, the lengths of 1, 2, 2 and 2, 3, 6
	edge := api.LevitatePlant{Den: 987, Maps: [][][]int{flat([]int{1, 2, 2}, []int{2, 3, 6}, 47)}, Noise: []int{0, 0, 0}}
	mirror := api.LevitatePlant{Den: 999, Maps: [][][]int{{{333, 666, 666}, {666, 333, -666}, {666, -666, 333}}}, Noise: []int{1, 1, 1}}
	half := twoMaps()
	half.Maps = append(half.Maps, [][]int{{8, 0}, {0, 0}}, [][]int{{9, 0}, {0, 0}})
	for _, c := range []struct {
		name   string
		p      api.LevitatePlant
		form   [][]int
		rate   [2]int
		number int
		want   api.Errno
	}{
		{"the example", small(), round(2, 1), [2]int{1, 2}, 0, api.OK},
		{"too little", small(), round(2, 1), [2]int{1, 5}, 0, api.ErrBreak},
		{"just too little", small(), round(2, 1), [2]int{32, 100}, 0, api.ErrBreak},
		{"just enough", small(), round(2, 1), [2]int{33, 100}, 0, api.OK},
		{"rate 1", small(), round(2, 1), [2]int{1, 1}, 0, api.OK},
		{"turned, not lessened", turn, round(2, 7), [2]int{999, 1000}, 0, api.ErrBreak},
		{"turned, by 1", turn, round(2, 7), [2]int{1000, 1000}, 0, api.OK},
		{"turned, not round", turn, [][]int{{8, 0}, {0, 7}}, [2]int{1, 1}, 0, api.ErrBreak},
		{"mirror", mirror, round(3, 10000), [2]int{1000, 1000}, 0, api.OK},
		{"mirror, a little less", mirror, round(3, 10000), [2]int{999, 1000}, 0, api.ErrBreak},
		{"mirror, not round", mirror, [][]int{{10000, 0, 0}, {0, 10000, 0}, {0, 0, 9999}}, [2]int{1000, 1000}, 0, api.ErrBreak},
		{"edge", edge, round(3, 10000), [2]int{1000, 1000}, 0, api.OK},
		{"edge, a little less", edge, round(3, 10000), [2]int{999, 1000}, 0, api.ErrBreak},
		{"0 of 1, a map of 0", single(1, 0, 3), round(1, 2), [2]int{0, 1}, 0, api.OK},
		{"0 of 1", single(1000, 1, 3), round(1, 2), [2]int{0, 1}, 0, api.ErrBreak},
		{"the third map", half, round(2, 1), [2]int{1, 2}, 2, api.ErrBreak},
		{"the fourth map", half, round(2, 1), [2]int{64, 100}, 3, api.ErrBreak},
		{"all maps", half, round(2, 1), [2]int{81, 100}, 0, api.OK},
		{"grows", single(1, 2, 0), round(1, 1), [2]int{1, 1}, 0, api.ErrBreak},
		{"the opposite", single(10, -5, 0), round(1, 1), [2]int{1, 4}, 0, api.OK},
	} {
		if n, e := levitate.CheckForm(c.p, c.form, c.rate); n != c.number || e != c.want {
			t.Error(c.name, n, e)
		}
	}
}

// P2.4: all principal minors count, not only the leading ones; and those of all orders.
func TestCheckFormAsksAllMinors(t *testing.T) {
	for _, c := range []struct {
		name string
		den  int
		rows [][]int
	}{
		{"the second number alone grows", 1, [][]int{{1, 0}, {0, 2}}},
		{"the last number alone grows", 1, [][]int{{1, 0, 0}, {0, 1, 0}, {0, 0, 2}}},
		{"the middle number alone grows", 1, [][]int{{1, 0, 0}, {0, 2, 0}, {0, 0, 1}}},
		{"both together", 1, [][]int{{1, 1}, {0, 0}}},
		{"the first and the last one together", 1, [][]int{{1, 0, 1}, {0, 0, 0}, {0, 0, 0}}},
		{"the last two together", 1, [][]int{{0, 0, 0}, {0, 1, 1}, {0, 0, 0}}},
		{"two that grow: their minor is above 0", 1, [][]int{{0, 0, 0}, {0, 2, 0}, {0, 0, 2}}},
		// 25 on the diagonal, less 9 everywhere: 16; 256 - 81; and all three at once 25 - 27
		{"all three together", 5, [][]int{{3, 3, 3}, {0, 0, 0}, {0, 0, 0}}},
	} {
		p := api.LevitatePlant{Den: c.den, Maps: [][][]int{c.rows}, Noise: make([]int, len(c.rows))}
		if n, e := levitate.CheckForm(p, round(len(c.rows), 1), [2]int{1, 1}); n != 0 || e != api.ErrBreak {
			t.Error(c.name, n, e)
		}
	}
}

// someProof is a plant, a form and a rate that may fit each other, of great numbers too.
func someProof(r *rand.Rand) (api.LevitatePlant, [][]int, [2]int) {
	den := []int{1, 10, 987, 1000, between(r, 1, 1000)}[r.Intn(5)]
	p := somePlant(r, den, between(r, 0, den*2/3), []int{0, 3, 10000}[r.Intn(3)])
	if r.Intn(4) == 0 && len(p.Noise) == 3 {
		p.Den, p.Maps = 987, [][][]int{flat([]int{2, -1, 2}, []int{6, 2, -3}, 47)}
	}
	most := []int{1, 10, 10000}[r.Intn(3)]
	form := someForm(r, len(p.Noise), most/10, max(1, most/2), most)
	if r.Intn(3) == 0 {
		form = round(len(p.Noise), most)
	}
	rate := [2]int{0, oneOf(r, 1, api.MaxLevitateDen)}
	rate[0] = oneOf(r, rate[1]/2, rate[1])
	return p, form, rate
}

// P2.4: as the chapter tells it, of many plants.
func TestCheckFormOfManyPlants(t *testing.T) {
	r := rand.New(rand.NewSource(4))
	count := map[api.Errno]int{}
	for range 3000 {
		p, form, rate := someProof(r)
		number, want := 0, api.OK
		if !isPositive(form) {
			want = api.ErrProof
		}
		for i := 0; want == api.OK && i < len(p.Maps); i++ {
			if !isLessened(p, i, form, rate) {
				number, want = i, api.ErrBreak
			}
		}
		count[want]++
		if n, e := levitate.CheckForm(p, form, rate); n != number || e != want {
			t.Fatal(p, form, rate, n, e, number, want)
		}
		if want != api.OK {
			continue
		}
		// what lessening means, without minors
		x := someState(r, len(form), 1000)
		for _, rows := range p.Maps {
			before, behind := valueOf(form, x), valueOf(form, sumsOf(rows, x))
			if before.Mul(before, times(rate[0], p.Den, p.Den)).Cmp(behind.Mul(behind, bigOf(rate[1]))) < 0 {
				t.Fatal(p, form, rate, x)
			}
		}
	}
	if count[api.OK] < 300 || count[api.ErrBreak] < 300 {
		t.Error(count)
	}
}
