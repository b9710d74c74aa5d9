package levitate_test

import (
	"math"
	"math/big"
	"math/rand"
	"slices"
	"testing"

	"guideway/api"
	"guideway/levitate"
)

// P2.5
func TestLeastLevel(t *testing.T) {
	for _, c := range []struct {
		name string
		p    api.LevitatePlant
		form [][]int
		rate [2]int
		want int
		err  api.Errno
	}{
		{"the example", small(), round(2, 1), [2]int{1, 2}, 234, api.OK},
		{"the rate 0: the worst disturbance", single(1, 0, 3), round(1, 2), [2]int{0, 1}, 32, api.OK},
		{"the rate 0 of 1000", single(1, 0, 10000), round(1, 10000), [2]int{0, 1000}, 1000200010000, api.OK},
		{"the rate 1", small(), round(2, 1), [2]int{1, 1}, 0, api.ErrNone},
		{"the rate 1000 of 1000", single(1, 0, 0), round(1, 1), [2]int{1000, 1000}, 0, api.ErrNone},
		// L / 4 at least the worst disturbance, and 3 / 4 of the root: root L at least 2 root N
		{"a quarter", single(2, 1, 9), round(1, 1), [2]int{1, 4}, 400, api.OK},
		{"a quarter, told otherwise", single(2, 1, 9), round(1, 1), [2]int{250, 1000}, 400, api.OK},
		{"great", single(10, 9, 999), round(1, 1000), [2]int{81, 100}, 100000000000, api.OK},
		{"the greatest", single(10, 9, 9999), round(1, 10000), [2]int{81, 100}, 100000000000000, api.OK},
		{"one more", single(10, 9, 10000), round(1, 10000), [2]int{81, 100}, 0, api.ErrNone},
		{"just one above the greatest", api.LevitatePlant{Den: 1, Maps: [][][]int{round(2, 0)}, Noise: []int{9645, 0}},
			[][]int{{1324, 0}, {0, 6675}}, [2]int{27, 29}, 0, api.ErrNone},
		{"none up to the greatest", single(1000, 999, 10000), round(1, 10000), [2]int{999, 1000}, 0, api.ErrNone},
	} {
		if n, e := levitate.LeastLevel(c.p, c.form, c.rate); n != c.want || e != c.err {
			t.Error(c.name, n, e)
		}
	}
}

// rest is a plant whose states all go to 0 at once.
func rest(parts int) api.LevitatePlant {
	return api.LevitatePlant{Den: 1, Maps: [][][]int{round(parts, 0)}, Noise: make([]int, parts)}
}

// P2.5
func TestCheckProof(t *testing.T) {
	tilted := [][]int{{5, -2}, {-2, 1}} // its determinant is 1: the bounds are the roots of L and of 5 L
	for _, c := range []struct {
		name  string
		p     api.LevitatePlant
		proof api.LevitateProof
		want  []int // none: ErrProof
	}{
		{"the example", small(), api.LevitateProof{Form: round(2, 1), Rate: [2]int{1, 2}, Level: 234}, []int{15, 15}},
		{"one less", small(), api.LevitateProof{Form: round(2, 1), Rate: [2]int{1, 2}, Level: 233}, nil},
		{"a square", small(), api.LevitateProof{Form: round(2, 1), Rate: [2]int{1, 2}, Level: 256}, []int{16, 16}},
		{"one less than a square", small(), api.LevitateProof{Form: round(2, 1), Rate: [2]int{1, 2}, Level: 255}, []int{15, 15}},
		{"A below 0", small(), api.LevitateProof{Form: round(2, 1), Rate: [2]int{1, 2}, Level: 39}, nil},
		{"A below 0, far", small(), api.LevitateProof{Form: round(2, 1), Rate: [2]int{1, 2}, Level: 0}, nil},
		{"A 0", single(1, 0, 3), api.LevitateProof{Form: round(1, 2), Rate: [2]int{0, 1}, Level: 32}, []int{4}},
		{"the rate 0, one less", single(1, 0, 3), api.LevitateProof{Form: round(1, 2), Rate: [2]int{0, 1}, Level: 31}, nil},
		{"the rate 1", small(), api.LevitateProof{Form: round(2, 1), Rate: [2]int{1, 1}, Level: api.MaxLevitateLevel}, nil},
		{"one number", single(2, 1, 9), api.LevitateProof{Form: round(1, 1), Rate: [2]int{1, 4}, Level: 400}, []int{20}},
		{"not whole", single(2, 1, 9), api.LevitateProof{Form: round(1, 3), Rate: [2]int{1, 4}, Level: 1202}, []int{20}},
		{"not round", rest(2), api.LevitateProof{Form: tilted, Rate: [2]int{0, 1}, Level: 20}, []int{4, 10}},
		{"great", single(10, 9, 9999), api.LevitateProof{Form: round(1, 10000), Rate: [2]int{81, 100}, Level: 100000000000000}, []int{100000}},
		{"great, one less", single(10, 9, 9999), api.LevitateProof{Form: round(1, 10000), Rate: [2]int{81, 100}, Level: 99999999999999}, nil},
		{"great bounds", rest(2), api.LevitateProof{Form: [][]int{{10000, 9999}, {9999, 9999}}, Rate: [2]int{0, 1}, Level: 100000000000000}, []int{10000000, 10000500}},
		{"a determinant of 1", rest(2), api.LevitateProof{Form: [][]int{{4181, 2584}, {2584, 1597}}, Rate: [2]int{0, 1}, Level: 100000000000000}, []int{399624824, 646606526}},
		{"a determinant of 1, three numbers", rest(3), api.LevitateProof{Form: [][]int{{1, 99, 70}, {99, 9802, 7000}, {70, 7000, 9801}}, Rate: [2]int{0, 1}, Level: 100000000000000}, []int{68607143942, 700071424, 10000000}},
	} {
		l, e := levitate.CheckProof(c.p, c.proof)
		want := api.OK
		if c.want == nil {
			want = api.ErrProof
		}
		if !slices.Equal(l, c.want) || e != want {
			t.Error(c.name, l, e)
		}
	}
}

// checkBounds checks the bounds of a right proof by what they mean.
func checkBounds(t *testing.T, p api.LevitatePlant, proof api.LevitateProof, bounds []int, e api.Errno) {
	t.Helper()
	if e != api.OK || len(bounds) != len(proof.Form) {
		t.Fatal(p, proof, bounds, e)
	}
	rows := bigRows(proof.Form)
	whole := determinantOf(rows, upTo(len(rows)))
	for i, bound := range bounds {
		most := determinantOf(rows, slices.Delete(upTo(len(rows)), i, i+1))
		most.Mul(most, bigOf(proof.Level))
		square := func(x int) *big.Int { return new(big.Int).Mul(times(x, x), whole) }
		if bound < 0 || square(bound).Cmp(most) > 0 || square(bound+1).Cmp(most) <= 0 {
			t.Fatal(p, proof, bounds, i)
		}
	}
}

// P2.5: errors of levels, and what comes ahead of them.
func TestLevelErrors(t *testing.T) {
	for _, c := range []struct {
		name  string
		rate  [2]int
		level int
		want  api.Errno
	}{
		{"below", [2]int{1, 2}, -1, api.ErrRange},
		{"above", [2]int{1, 2}, 100000000000001, api.ErrRange},
		{"least", [2]int{1, 2}, math.MinInt, api.ErrRange},
		{"greatest", [2]int{1, 2}, math.MaxInt, api.ErrRange},
		{"the greatest level", [2]int{1, 2}, 100000000000000, api.OK},
		{"not lessened, level", [2]int{1, 5}, -1, api.ErrBreak},
		{"level, not kept", [2]int{1, 1}, 100000000000001, api.ErrRange},
		{"not kept", [2]int{1, 1}, 100000000000000, api.ErrProof},
		{"level 0", [2]int{1, 2}, 0, api.ErrProof},
	} {
		l, e := levitate.CheckProof(small(), api.LevitateProof{Form: round(2, 1), Rate: c.rate, Level: c.level})
		if e != c.want || (len(l) == 0) != (e != api.OK) {
			t.Error(c.name, l, e)
		}
	}
	// a map that is not the first one
	if l, e := levitate.CheckProof(twoMaps(), api.LevitateProof{Form: round(2, 1), Rate: [2]int{1, 3}, Level: 1000}); len(l) != 0 || e != api.ErrBreak {
		t.Error(l, e)
	}
	if n, e := levitate.LeastLevel(twoMaps(), round(2, 1), [2]int{1, 3}); n != 0 || e != api.ErrBreak {
		t.Error(n, e)
	}
}

// P2.5, P2.10: the least level is kept, one less is not; greater ones are; bounds are as great as they can be.
func TestLeastLevelsOfManyPlants(t *testing.T) {
	r := rand.New(rand.NewSource(1))
	count := map[api.Errno]int{}
	for range 4000 {
		p, form, rate := someProof(r)
		if _, e := levitate.CheckForm(p, form, rate); e != api.OK {
			continue
		}
		worst := worstOf(p, form)
		level, e := levitate.LeastLevel(p, form, rate)
		count[e]++
		if e != api.OK {
			if level != 0 || e != api.ErrNone || isKept(api.MaxLevitateLevel, rate, worst) {
				t.Fatal(p, form, rate, level, e)
			}
			continue
		}
		if !isKept(level, rate, worst) || isKept(level-1, rate, worst) {
			t.Fatal(p, form, rate, level)
		}
		for _, l := range []int{level, between(r, level, api.MaxLevitateLevel)} {
			proof := api.LevitateProof{Form: form, Rate: rate, Level: l}
			bounds, e := levitate.CheckProof(p, proof)
			checkBounds(t, p, proof, bounds, e)
		}
		for _, l := range []int{level - 1, between(r, 0, level-1)} {
			if bounds, e := levitate.CheckProof(p, api.LevitateProof{Form: form, Rate: rate, Level: l}); len(bounds) != 0 || e != api.ErrProof {
				t.Fatal(p, form, rate, level, l, bounds, e)
			}
		}
	}
	if count[api.OK] < 300 || count[api.ErrNone] < 20 {
		t.Error(count)
	}
}

// P2.10: from a state whose value is at most the level, each run stays there, and no number is greater than its bound.
func TestRunsStayAtLevels(t *testing.T) {
	r := rand.New(rand.NewSource(2))
	proofs := 0
	for range 3000 {
		p, form, rate := someProof(r)
		level, e := levitate.LeastLevel(p, form, rate)
		if e != api.OK {
			continue
		}
		bounds, e := levitate.CheckProof(p, api.LevitateProof{Form: form, Rate: rate, Level: level})
		if e != api.OK {
			t.Fatal(p, form, rate, level, e)
		}
		var x []int
		for _, bound := range bounds {
			x = append(x, oneOf(r, -bound, bound))
		}
		for valueOf(form, x).Cmp(bigOf(level)) > 0 {
			for i := range x {
				x[i] /= 2
			}
		}
		proofs++
		for range 20 {
			x = stepped(p, x, someSample(r, p))
			if valueOf(form, x).Cmp(bigOf(level)) > 0 || !isIn(x, bounds) {
				t.Fatal(p, form, rate, level, bounds, x)
			}
		}
	}
	if proofs < 200 {
		t.Error(proofs)
	}
}

// P2.10: a proof with a magnet out, step by step with the program itself.
func TestOneMapOut(t *testing.T) {
	p, form, rate := twoMaps(), round(2, 1), [2]int{1, 2}
	level, e := levitate.LeastLevel(p, form, rate)
	if level != 234 || e != api.OK {
		t.Fatal(level, e)
	}
	bounds, e := levitate.CheckProof(p, api.LevitateProof{Form: form, Rate: rate, Level: level})
	if !slices.Equal(bounds, []int{15, 15}) || e != api.OK {
		t.Fatal(bounds, e)
	}
	for _, x := range statesIn(bounds) {
		if value, e := levitate.ValueOf(form, x); e != api.OK || value > level {
			continue
		}
		for number := range p.Maps {
			for _, noise := range statesIn(p.Noise) {
				y, e := levitate.StepOf(p, x, sample(number, noise...))
				if value, _ := levitate.ValueOf(form, y); e != api.OK || value > level || !isIn(y, bounds) {
					t.Fatal(x, number, noise, y, e)
				}
			}
		}
	}
}
