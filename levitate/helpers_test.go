package levitate_test

import (
	"math/big"
	"math/rand"
	"reflect"
	"slices"
	"testing"

	"guideway/api"
	"guideway/levitate"
)

// small is the plant of the chapter's examples.
func small() api.LevitatePlant {
	return api.LevitatePlant{Den: 10, Maps: [][][]int{{{5, 0}, {2, 4}}}, Noise: []int{3, 1}}
}

// twoMaps is the plant of the examples with another map: its first number keeps more of itself, less of it goes over.
func twoMaps() api.LevitatePlant {
	p := small()
	p.Maps = append(p.Maps, [][]int{{6, 1}, {-1, 3}})
	return p
}

// single is a plant of one number.
func single(den, entry, noise int) api.LevitatePlant {
	return api.LevitatePlant{Den: den, Maps: [][][]int{{{entry}}}, Noise: []int{noise}}
}

// round is the form x x + y y + .., each entry being times.
func round(parts, times int) [][]int {
	form := make([][]int, parts)
	for i := range form {
		form[i] = make([]int, parts)
		form[i][i] = times
	}
	return form
}

func changed(p api.LevitatePlant, change func(*api.LevitatePlant)) api.LevitatePlant {
	p = copied(p)
	change(&p)
	return p
}

func copied(p api.LevitatePlant) api.LevitatePlant {
	p.Noise = slices.Clone(p.Noise)
	p.Maps = slices.Clone(p.Maps)
	for i := range p.Maps {
		p.Maps[i] = copiedRows(p.Maps[i])
	}
	return p
}

func copiedRows(rows [][]int) [][]int {
	rows = slices.Clone(rows)
	for i := range rows {
		rows[i] = slices.Clone(rows[i])
	}
	return rows
}

func sameRows(a, b [][]int) bool {
	return slices.EqualFunc(a, b, slices.Equal[[]int])
}

func samePlant(a, b api.LevitatePlant) bool {
	return a.Den == b.Den && slices.EqualFunc(a.Maps, b.Maps, sameRows) && slices.Equal(a.Noise, b.Noise)
}

func between(r *rand.Rand, lo, hi int) int {
	return lo + r.Intn(hi-lo+1)
}

// oneOf is often an end of a range: there mistakes are found.
func oneOf(r *rand.Rand, lo, hi int) int {
	switch r.Intn(5) {
	case 0:
		return lo
	case 1:
		return hi
	}
	return between(r, lo, hi)
}

// somePlant is a right plant whose entries are up to most, its disturbances up to noise.
func somePlant(r *rand.Rand, den, most, noise int) api.LevitatePlant {
	parts := between(r, 1, api.MaxLevitateParts)
	p := api.LevitatePlant{Den: den}
	for range parts {
		p.Noise = append(p.Noise, oneOf(r, 0, noise))
	}
	for range between(r, 1, api.MaxLevitateMaps) {
		p.Maps = append(p.Maps, someRows(r, parts, most))
	}
	return p
}

func someRows(r *rand.Rand, parts, most int) [][]int {
	var rows [][]int
	for range parts {
		rows = append(rows, someState(r, parts, most))
	}
	return rows
}

func someState(r *rand.Rand, parts, most int) []int {
	var x []int
	for range parts {
		x = append(x, oneOf(r, -most, most))
	}
	return x
}

// someForm is a form whose entries beside the diagonal are up to aside, those on it from least to most.
func someForm(r *rand.Rand, parts, aside, least, most int) [][]int {
	form := round(parts, 0)
	for i := range parts {
		form[i][i] = oneOf(r, least, most)
		for k := range i {
			form[i][k] = between(r, -aside, aside)
			form[k][i] = form[i][k]
		}
	}
	return form
}

// someSample is a right sample of a plant, often with the greatest disturbances.
func someSample(r *rand.Rand, p api.LevitatePlant) api.LevitateSample {
	s := api.LevitateSample{Map: r.Intn(len(p.Maps))}
	for _, most := range p.Noise {
		s.Noise = append(s.Noise, oneOf(r, -most, most))
	}
	return s
}

func isPlant(t *testing.T, p api.LevitatePlant) {
	t.Helper()
	if m, e := levitate.CheckPlant(p); m != (api.LevitateMark{}) || e != api.OK {
		t.Fatal(p, m, e)
	}
}

func bigOf(x int) *big.Int {
	return big.NewInt(int64(x))
}

// times is the product of some numbers, of any size.
func times(numbers ...int) *big.Int {
	product := bigOf(1)
	for _, x := range numbers {
		product.Mul(product, bigOf(x))
	}
	return product
}

// stepped is the state behind a step, as the chapter tells it.
func stepped(p api.LevitatePlant, x []int, s api.LevitateSample) []int {
	var next []int
	for i, row := range p.Maps[s.Map] {
		sum := bigOf(0)
		for k, entry := range row {
			sum.Add(sum, times(entry, x[k]))
		}
		sum.Div(sum, bigOf(p.Den)) // Euclidean: down, as Den is above 0
		next = append(next, int(sum.Int64())+s.Noise[i])
	}
	return next
}

// isState tells whether no number is too great.
func isState(x []int) bool {
	return !slices.ContainsFunc(x, func(n int) bool { return n < -api.MaxLevitateState || n > api.MaxLevitateState })
}

// valueOf is the value of a form, of any size.
func valueOf(form [][]int, x []int) *big.Int {
	sum := bigOf(0)
	for i, row := range form {
		for k, entry := range row {
			sum.Add(sum, times(entry, x[i], x[k]))
		}
	}
	return sum
}

func bigRows(rows [][]int) [][]*big.Int {
	var out [][]*big.Int
	for _, row := range rows {
		var numbers []*big.Int
		for _, x := range row {
			numbers = append(numbers, bigOf(x))
		}
		out = append(out, numbers)
	}
	return out
}

// determinantOf is the determinant of the entries of some rows and the same columns: the sum over all orders of them.
func determinantOf(rows [][]*big.Int, set []int) *big.Int {
	sum := bigOf(0)
	for _, order := range ordersOf(len(set)) {
		part := bigOf(1)
		for i, k := range order {
			part.Mul(part, rows[set[i]][set[k]])
			for _, before := range order[:i] {
				if before > k {
					part.Neg(part)
				}
			}
		}
		sum.Add(sum, part)
	}
	return sum
}

func ordersOf(n int) [][]int {
	if n == 0 {
		return [][]int{nil}
	}
	var out [][]int
	for _, order := range ordersOf(n - 1) {
		for at := range n {
			out = append(out, slices.Insert(slices.Clone(order), at, n-1))
		}
	}
	return out
}

// setsOf is all sets of the numbers below n, in no order.
func setsOf(n int) [][]int {
	if n == 0 {
		return [][]int{nil}
	}
	var out [][]int
	for _, set := range setsOf(n - 1) {
		out = append(out, set, append(slices.Clone(set), n-1))
	}
	return out
}

func upTo(n int) []int {
	var out []int
	for i := range n {
		out = append(out, i)
	}
	return out
}

func isPositive(form [][]int) bool {
	for n := 1; n <= len(form); n++ {
		if determinantOf(bigRows(form), upTo(n)).Sign() <= 0 {
			return false
		}
	}
	return true
}

// worstOf is the worst disturbance.
func worstOf(p api.LevitatePlant, form [][]int) *big.Int {
	var worst *big.Int
	for _, set := range setsOf(len(p.Noise)) {
		var point []int
		for i, noise := range p.Noise {
			point = append(point, noise+1)
			if slices.Contains(set, i) {
				point[i] = -point[i]
			}
		}
		if value := valueOf(form, point); worst == nil || value.Cmp(worst) > 0 {
			worst = value
		}
	}
	return worst
}

// sumsOf is a map's sums at a state, without dividing and rounding.
func sumsOf(rows [][]int, x []int) []int {
	var out []int
	for _, row := range rows {
		sum := 0
		for k, entry := range row {
			sum += entry * x[k]
		}
		out = append(out, sum)
	}
	return out
}

// isLessened tells whether a map lessens a form: the form of what is left has no principal minor below 0.
func isLessened(p api.LevitatePlant, number int, form [][]int, rate [2]int) bool {
	left := bigRows(form)
	for i := range left {
		for k := range left {
			left[i][k].Mul(left[i][k], times(rate[0], p.Den, p.Den))
			for a, row := range form {
				for b, entry := range row {
					left[i][k].Sub(left[i][k], times(rate[1], p.Maps[number][a][i], entry, p.Maps[number][b][k]))
				}
			}
		}
	}
	for _, set := range setsOf(len(form)) {
		if determinantOf(left, set).Sign() < 0 {
			return false
		}
	}
	return true
}

// isKept tells whether a level is kept.
func isKept(level int, rate [2]int, worst *big.Int) bool {
	a := times(rate[1]-rate[0], level)
	a.Sub(a, new(big.Int).Mul(bigOf(rate[1]), worst))
	if a.Sign() < 0 {
		return false
	}
	needed := new(big.Int).Mul(times(4, rate[0], rate[1], level), worst)
	return a.Mul(a, a).Cmp(needed) >= 0
}

// isZero tells whether a result is its zero value, or an empty list.
func isZero(x any) bool {
	v := reflect.ValueOf(x)
	return v.IsZero() || v.Kind() == reflect.Slice && v.Len() == 0
}
