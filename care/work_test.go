package care_test

import (
	"math/rand"
	"slices"
	"testing"

	"guideway/api"
	"guideway/care"
)

// randomWork has at most so many windows and jobs; a job takes at most 6 hours.
func randomWork(r *rand.Rand, windows, jobs int) api.CareWork {
	var x api.CareWork
	for range 1 + r.Intn(windows) {
		x.Windows = append(x.Windows, r.Intn(15))
	}
	for range r.Intn(jobs + 1) {
		j := api.CareJob{Hours: 1 + r.Intn(6), First: r.Intn(len(x.Windows))}
		j.Last = j.First + r.Intn(len(x.Windows)-j.First)
		x.Jobs = append(x.Jobs, j)
	}
	return x
}

// answer is what CheckWork answers, by the definition.
func answer(x api.CareWork, windows []int) (int, api.Errno) {
	hours := slices.Clone(x.Windows)
	for job, window := range windows {
		hours[window] -= x.Jobs[job].Hours
		switch {
		case window < x.Jobs[job].First, window > x.Jobs[job].Last:
			return 0, api.ErrLate
		case hours[window] < 0:
			return 0, api.ErrFull
		}
	}
	used := 0
	for window := range x.Windows {
		if slices.Contains(windows, window) {
			used++
		}
	}
	return used, api.OK
}

// P9.5, example 5.
func TestExampleOfWork(t *testing.T) {
	l, e := care.FirstWork(work())
	isList(t, l, e, 0, 1, 0)
	n, e := care.CheckWork(work(), []int{0, 1, 0})
	is(t, n, e, 2)
	n, e = care.CheckWork(work(), []int{0, 0, 0})
	refused(t, "9 of 8 hours", n, e, api.ErrFull)
}

// P9.5: all windows by the definition, and the first ones that are accepted; P9.12: with more hours there still are some.
func TestWork(t *testing.T) {
	r := rand.New(rand.NewSource(9))
	for range 400 {
		x := randomWork(r, 4, 5)
		var first []int
		isFound := false
		eachList(len(x.Jobs), 0, len(x.Windows)-1, func(windows []int) bool {
			want, err := answer(x, windows)
			n, e := care.CheckWork(x, windows)
			if n != want || e != err {
				t.Error(x, windows, n, e, want, err)
			}
			if err == api.OK && !isFound {
				first, isFound = slices.Clone(windows), true
			}
			return !t.Failed()
		})
		l, e := care.FirstWork(x)
		if !isFound {
			refused(t, "none", l, e, api.ErrNone)
			continue
		}
		isList(t, l, e, first...)
		x.Windows[r.Intn(len(x.Windows))] += 1 + r.Intn(900)
		l, e = care.FirstWork(x)
		if _, f := care.CheckWork(x, l); e != api.OK || f != api.OK {
			t.Error(x, l, e, f)
		}
	}
}

// P9.5: no jobs, a job that takes all hours of a window, and as much as there may be.
func TestLimitsOfWork(t *testing.T) {
	most := api.CareWork{Windows: slices.Repeat([]int{1000}, 5), Jobs: slices.Repeat([]api.CareJob{{Hours: 1000, Last: 4}}, 5)}
	few := api.CareWork{Windows: most.Windows, Jobs: append(slices.Repeat([]api.CareJob{{Hours: 500, Last: 4}}, 5), api.CareJob{Hours: 500, First: 0, Last: 0})}
	for _, x := range []struct {
		work  api.CareWork
		first []int
		used  int
	}{
		{api.CareWork{Windows: []int{0}}, nil, 0},
		{api.CareWork{Windows: []int{7}, Jobs: []api.CareJob{{Hours: 7}}}, []int{0}, 1},
		{api.CareWork{Windows: []int{7, 0, 8}, Jobs: []api.CareJob{{Hours: 8, Last: 2}, {Hours: 7, Last: 2}}}, []int{2, 0}, 2},
		{api.CareWork{Windows: []int{3, 3}, Jobs: []api.CareJob{{Hours: 1, Last: 1}, {Hours: 2, Last: 1}}}, []int{0, 0}, 1},
		{most, []int{0, 1, 2, 3, 4}, 5},
		{few, []int{0, 1, 1, 2, 2, 0}, 3},
	} {
		l, e := care.FirstWork(x.work)
		isList(t, l, e, x.first...)
		n, e := care.CheckWork(x.work, x.first)
		is(t, n, e, x.used)
	}
	most.Jobs = append(most.Jobs, api.CareJob{Hours: 1, Last: 4})
	l, e := care.FirstWork(most)
	refused(t, "an hour too much", l, e, api.ErrNone)
}
