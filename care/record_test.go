package care_test

import (
	"math/rand"
	"slices"
	"testing"

	"guideway/api"
	"guideway/care"
)

// randomRecord has so many beams and at most so many readings, each over at most so many beams.
func randomRecord(r *rand.Rand, beams, readings, longest int) api.CareRecord {
	x := api.CareRecord{Beams: beams}
	for range r.Intn(readings + 1) {
		from := r.Intn(beams)
		to := min(beams-1, from+r.Intn(longest))
		isWrong := r.Intn(3) > 0
		if !isWrong {
			to = min(to, from+1) // so that suspects are left
		}
		x.Readings = append(x.Readings, api.CareReading{From: from, To: to, Wrong: isWrong})
	}
	return x
}

// isSuspect tells whether no reading without anything wrong went over a beam.
func isSuspect(x api.CareRecord, beam int) bool {
	for _, r := range x.Readings {
		if !r.Wrong && r.From <= beam && beam <= r.To {
			return false
		}
	}
	return true
}

// explain tells whether beams explain the readings, by the definition.
func explain(x api.CareRecord, beams []int) bool {
	for _, beam := range beams {
		if !isSuspect(x, beam) {
			return false
		}
	}
	for _, r := range x.Readings {
		went := false
		for _, beam := range beams {
			went = went || r.From <= beam && beam <= r.To
		}
		if r.Wrong && !went {
			return false
		}
	}
	return true
}

// P9.4, example 4.
func TestExampleOfRecord(t *testing.T) {
	l, e := care.Suspects(record())
	isList(t, l, e, 2, 3, 4)
	l, e = care.LeastFaults(record())
	isList(t, l, e, 2)
	n, e := care.CheckFaults(record(), []int{2})
	is(t, n, e, 1)
	n, e = care.CheckFaults(record(), []int{2, 3, 4})
	is(t, n, e, 3)
}

// P9.4: suspects are all beams over which no good reading went.
func TestSuspects(t *testing.T) {
	r := rand.New(rand.NewSource(6))
	for range 500 {
		x := randomRecord(r, 1+r.Intn(40), 40, 40)
		var want []int
		for beam := range x.Beams {
			if isSuspect(x, beam) {
				want = append(want, beam)
			}
		}
		l, e := care.Suspects(x)
		isList(t, l, e, want...)
	}
}

// P9.4: the least set of beams that explains the readings, by trying all sets; CheckFaults of all of them. P9.11: CheckFaults
// accepts LeastFaults, and nothing smaller; all suspects explain the readings, if anything does.
func TestLeastFaults(t *testing.T) {
	r := rand.New(rand.NewSource(7))
	for range 400 {
		x := randomRecord(r, 1+r.Intn(8), 8, 4)
		isExplained := false
		for _, set := range sets(x.Beams) {
			n, e := care.CheckFaults(x, set)
			switch {
			case explain(x, set):
				is(t, n, e, len(set))
			case slices.ContainsFunc(set, func(beam int) bool { return !isSuspect(x, beam) }):
				refused(t, "no suspect", n, e, api.ErrClash)
			default:
				refused(t, "not explained", n, e, api.ErrGap)
			}
			if explain(x, set) && !isExplained {
				isExplained = true
				l, e := care.LeastFaults(x)
				isList(t, l, e, set...)
			}
		}
		suspects, _ := care.Suspects(x)
		if _, e := care.CheckFaults(x, suspects); (e == api.OK) != isExplained {
			t.Error(x, suspects, e)
		}
		if !isExplained {
			l, e := care.LeastFaults(x)
			refused(t, "none", l, e, api.ErrNone)
		}
	}
}

// P9.4: long records, of which the least set is looked for from the left to the right.
func TestLongRecords(t *testing.T) {
	r := rand.New(rand.NewSource(8))
	all := sets(14)
	for range 300 {
		x := randomRecord(r, 14, 14, 6)
		i := slices.IndexFunc(all, func(set []int) bool { return explain(x, set) })
		l, e := care.LeastFaults(x)
		if i < 0 {
			refused(t, "none", l, e, api.ErrNone)
		} else {
			isList(t, l, e, all[i]...)
		}
		if t.Failed() {
			t.Fatal(x)
		}
	}
	x := api.CareRecord{Beams: 40}
	var want []int
	for beam := range 40 {
		x.Readings = append(x.Readings, api.CareReading{From: beam, To: beam, Wrong: true})
		want = append(want, beam)
	}
	l, e := care.LeastFaults(x)
	isList(t, l, e, want...)
	n, e := care.CheckFaults(x, want)
	is(t, n, e, 40)
}

// P9.4: few readings; a record without wrong ones is explained by no beams.
func TestFewReadings(t *testing.T) {
	for _, x := range []struct {
		record          api.CareRecord
		suspects, least []int
	}{
		{api.CareRecord{Beams: 1}, []int{0}, nil},
		{api.CareRecord{Beams: 2, Readings: []api.CareReading{{From: 0, To: 1}}}, nil, nil},
		{api.CareRecord{Beams: 2, Readings: []api.CareReading{{From: 0, To: 1, Wrong: true}}}, []int{0, 1}, []int{0}},
		{api.CareRecord{Beams: 3, Readings: []api.CareReading{{From: 2, To: 2, Wrong: true}, {From: 0, To: 2, Wrong: true}}}, []int{0, 1, 2}, []int{2}},
		{api.CareRecord{Beams: 4, Readings: []api.CareReading{{From: 0, To: 0, Wrong: true}, {From: 1, To: 3, Wrong: true}}}, []int{0, 1, 2, 3}, []int{0, 1}},
		{api.CareRecord{Beams: 4, Readings: []api.CareReading{{From: 1, To: 1}, {From: 0, To: 1, Wrong: true}, {From: 1, To: 3, Wrong: true}}}, []int{0, 2, 3}, []int{0, 2}},
	} {
		l, e := care.Suspects(x.record)
		isList(t, l, e, x.suspects...)
		l, e = care.LeastFaults(x.record)
		isList(t, l, e, x.least...)
		n, e := care.CheckFaults(x.record, x.least)
		is(t, n, e, len(x.least))
	}
	wrong := api.CareRecord{Beams: 2, Readings: []api.CareReading{{From: 1, To: 1, Wrong: true}, {From: 0, To: 1}}}
	l, e := care.LeastFaults(wrong)
	refused(t, "none", l, e, api.ErrNone)
	n, e := care.CheckFaults(wrong, nil)
	refused(t, "none", n, e, api.ErrGap)
}
