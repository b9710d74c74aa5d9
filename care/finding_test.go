package care_test

import (
	"math/rand"
	"slices"
	"testing"

	"guideway/api"
	"guideway/care"
)

// P9.7, example 7.
func TestExampleOfFindings(t *testing.T) {
	for _, x := range []struct {
		count, limit int
		want         []int
	}{
		{1, 30, []int{3}}, {2, 30, []int{1, 3}}, {3, 30, []int{1}}, {3, 20, []int{1}}, {3, 19, []int{1, 3}}, {3, 31, nil}, {3, 10000, nil}, {0, 0, nil},
	} {
		l, e := care.OpenOf(findings()[:x.count], x.limit)
		isList(t, l, e, x.want...)
	}
}

// P9.7: a finding is open if it is the last one of its beam, whatever its date is.
func TestOpenOf(t *testing.T) {
	r := rand.New(rand.NewSource(12))
	for range 500 {
		var list []api.CareFinding
		for range r.Intn(101) {
			list = append(list, api.CareFinding{Name: "n", Date: r.Intn(5), Beam: r.Intn(40), Off: r.Intn(21) - 10})
		}
		limit := r.Intn(12)
		var want []int
		for i, f := range list {
			isLast := !slices.ContainsFunc(list[i+1:], func(g api.CareFinding) bool { return g.Beam == f.Beam })
			if isLast && (f.Off > limit || f.Off < -limit) {
				want = append(want, f.Beam)
			}
		}
		slices.Sort(want)
		l, e := care.OpenOf(list, limit)
		isList(t, l, e, want...)
	}
}

// P9.7: findings at the limits.
func TestLimitsOfFindings(t *testing.T) {
	list := []api.CareFinding{{Name: "abcdefghijkl", Date: 100000, Beam: 100000, Off: -10000}, {Name: "Z"}, {Name: "y", Beam: 5, Off: 10000}}
	l, e := care.OpenOf(list, 9999)
	isList(t, l, e, 5, 100000)
	l, e = care.OpenOf(list, 10000)
	isList(t, l, e)
	l, e = care.OpenOf(append(list, api.CareFinding{Name: "a", Beam: 100000}), 0)
	isList(t, l, e, 5)
	l, e = care.OpenOf(slices.Repeat(list[2:], 100), 0)
	isList(t, l, e, 5)
}
