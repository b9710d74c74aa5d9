package locate_test

import (
	"math"
	"math/rand"
	"reflect"
	"slices"
	"testing"

	"guideway/api"
	"guideway/locate"
)

// example is the track of the chapter's examples.
func example() api.LocateTrack {
	return api.LocateTrack{
		Vanes: []int{0, 0, 1, 1, 1, 0, 1}, Window: 3, Tooth: 100, PerVane: 2, First: 1000, Modulus: 5, Round: true,
	}
}

func changed(t api.LocateTrack, change func(*api.LocateTrack)) api.LocateTrack {
	t.Vanes = slices.Clone(t.Vanes)
	change(&t)
	return t
}

// same compares tracks; nil lists and empty ones are the same.
func same(a, b api.LocateTrack) bool {
	vanes := slices.Equal(a.Vanes, b.Vanes)
	a.Vanes, b.Vanes = nil, nil
	return vanes && reflect.DeepEqual(a, b)
}

// outside are numbers that are not from lo to hi.
func outside(lo, hi int) []int {
	return []int{lo - 1, hi + 1, math.MinInt, math.MaxInt}
}

// wrongTrack is a track with its error, and the vane that has it.
type wrongTrack struct {
	name  string
	track api.LocateTrack
	vane  int
	err   api.Errno
}

// wrongTracks are tracks with each error, also with several.
func wrongTracks() []wrongTrack {
	out := wrongVanes()
	for name, c := range map[string]struct {
		lo, hi int
		set    func(*api.LocateTrack, int)
	}{
		"tooth":   {1, 1000, func(t *api.LocateTrack, n int) { t.Tooth = n }},
		"vane":    {1, 12, func(t *api.LocateTrack, n int) { t.PerVane = n }},
		"first":   {0, 999000000, func(t *api.LocateTrack, n int) { t.First = n }},
		"modulus": {1, 1000, func(t *api.LocateTrack, n int) { t.Modulus, t.Slack = n, 0 }},
		"slack":   {0, 5, func(t *api.LocateTrack, n int) { t.Slack = n }},
		"errors":  {0, 3, func(t *api.LocateTrack, n int) { t.Errors = n }},
	} {
		for _, n := range outside(c.lo, c.hi) {
			t := changed(example(), func(t *api.LocateTrack) { c.set(t, n) })
			kind := changed(t, func(t *api.LocateTrack) { t.Vanes[5] = 2 })
			out = append(out, wrongTrack{name, t, 0, api.ErrRange}, wrongTrack{name + ", kind", kind, 5, api.ErrKind})
		}
	}
	return out
}

// wrongVanes are tracks whose windows or vanes are wrong.
func wrongVanes() []wrongTrack {
	var out []wrongTrack
	add := func(name string, vane int, err api.Errno, change func(*api.LocateTrack)) {
		out = append(out, wrongTrack{name, changed(example(), change), vane, err})
	}
	for _, n := range outside(1, 12) {
		add("window", 0, api.ErrRange, func(t *api.LocateTrack) { t.Window = n })
		add("window, none", 0, api.ErrRange, func(t *api.LocateTrack) { t.Window, t.Vanes = n, nil })
		add("window, 41", 0, api.ErrRange, func(t *api.LocateTrack) { t.Window, t.Vanes = n, make([]int, 41) })
		add("window, kind", 0, api.ErrRange, func(t *api.LocateTrack) { t.Window, t.Vanes[3] = n, 2 })
	}
	add("none", 0, api.ErrShape, func(t *api.LocateTrack) { t.Vanes = nil })
	add("empty", 0, api.ErrShape, func(t *api.LocateTrack) { t.Vanes = []int{} })
	add("two", 0, api.ErrShape, func(t *api.LocateTrack) { t.Vanes = t.Vanes[:2] })
	add("seven of 8", 0, api.ErrShape, func(t *api.LocateTrack) { t.Window = 8 })
	add("two, open", 0, api.ErrShape, func(t *api.LocateTrack) { t.Vanes, t.Round = t.Vanes[:2], false })
	add("two, kind", 0, api.ErrShape, func(t *api.LocateTrack) { t.Vanes = []int{0, 2} })
	add("two, tooth", 0, api.ErrShape, func(t *api.LocateTrack) { t.Vanes, t.Tooth = t.Vanes[:2], 0 })
	add("41", 0, api.ErrLarge, func(t *api.LocateTrack) { t.Vanes = make([]int, 41) })
	add("41, kind", 0, api.ErrLarge, func(t *api.LocateTrack) { t.Vanes = slices.Repeat([]int{2}, 41) })
	add("41, tooth", 0, api.ErrLarge, func(t *api.LocateTrack) { t.Vanes, t.Tooth = make([]int, 41), 0 })
	for _, n := range outside(0, 1) {
		for vane := range 7 {
			add("kind", vane, api.ErrKind, func(t *api.LocateTrack) { t.Vanes[vane] = n })
		}
		add("kinds", 2, api.ErrKind, func(t *api.LocateTrack) { t.Vanes[2], t.Vanes[4] = n, n })
	}
	return out
}

// wrongSeen is what is seen of the example's track, with its error.
type wrongSeen struct {
	seen []int
	err  api.Errno
}

func wrongSeens() []wrongSeen {
	out := []wrongSeen{
		{nil, api.ErrShape}, {[]int{}, api.ErrShape}, {[]int{0, 1}, api.ErrShape}, {[]int{0, 1, 0, 1}, api.ErrShape},
		{[]int{3, 1}, api.ErrShape}, {[]int{-1, 1, 0, 1}, api.ErrShape}, {make([]int, 12), api.ErrShape},
	}
	for _, n := range outside(0, 2) {
		out = append(out, wrongSeen{[]int{n, 0, 1}, api.ErrKind}, wrongSeen{[]int{2, n, 1}, api.ErrKind}, wrongSeen{[]int{0, 0, n}, api.ErrKind})
	}
	return out
}

// wrongRange is a range with its error.
type wrongRange struct {
	x   api.Range
	err api.Errno
}

// wrongRanges are ranges whose ends are not from lo to hi, or not in order.
func wrongRanges(lo, hi int) []wrongRange {
	out := []wrongRange{
		{api.Range{Lo: lo + 1, Hi: lo}, api.ErrOrder}, {api.Range{Lo: hi, Hi: hi - 1}, api.ErrOrder}, {api.Range{Lo: hi, Hi: lo}, api.ErrOrder},
	}
	for _, n := range outside(lo, hi) {
		out = append(out, wrongRange{api.Range{Lo: n, Hi: hi}, api.ErrRange}, wrongRange{api.Range{Lo: lo, Hi: n}, api.ErrRange},
			wrongRange{api.Range{Lo: n, Hi: n}, api.ErrRange})
	}
	return out
}

func wrongPlaces() []wrongRange {
	return wrongRanges(0, 1000000000)
}

func wrongSpeeds() []wrongRange {
	return wrongRanges(-140000, 140000)
}

func wrongTimes() []int {
	return outside(0, 10000000)
}

func between(r *rand.Rand, lo, hi int) int {
	return lo + r.Intn(hi-lo+1)
}

// oneOf is often an end of a range: there mistakes are found.
func oneOf(r *rand.Rand, lo, hi int) int {
	switch r.Intn(5) {
	case 0:
		return lo
	case 1:
		return hi
	}
	return between(r, lo, hi)
}

// someRange is a range of numbers from lo to hi.
func someRange(r *rand.Rand, lo, hi int) api.Range {
	a, b := oneOf(r, lo, hi), oneOf(r, lo, hi)
	return api.Range{Lo: min(a, b), Hi: max(a, b)}
}

func someNumbers(r *rand.Rand, count, most int) []int {
	out := make([]int, count)
	for i := range out {
		out[i] = r.Intn(most + 1)
	}
	return out
}

// someTrack is a right track with windows up to a size.
func someTrack(r *rand.Rand, mostWindow, mostVanes int) api.LocateTrack {
	window := between(r, 1, mostWindow)
	modulus := []int{1, 2, 3, 5, 17, 1000}[r.Intn(6)]
	return api.LocateTrack{
		Vanes: someNumbers(r, oneOf(r, window, mostVanes), 1), Window: window,
		Tooth: oneOf(r, 1, 1000), PerVane: oneOf(r, 1, 12), First: oneOf(r, 0, 999000000),
		Modulus: modulus, Slack: []int{0, 0, 1 % modulus, modulus / 2, modulus}[r.Intn(5)],
		Errors: min(window, []int{0, 0, 1, 2, 12}[r.Intn(5)]), Round: r.Intn(2) == 0,
	}
}

// windowsIn are the windows of a track, by their definition.
func windowsIn(t api.LocateTrack) [][]int {
	var out [][]int
	for i := range t.Vanes {
		var window []int
		for k := range t.Window {
			if i+k < len(t.Vanes) || t.Round {
				window = append(window, t.Vanes[(i+k)%len(t.Vanes)])
			}
		}
		if len(window) == t.Window {
			out = append(out, window)
		}
	}
	return out
}

// differences are the positions at which two lists differ, by their definition.
func differences(a, b []int) int {
	count := 0
	for i := range a {
		if a[i] != 2 && b[i] != 2 && a[i] != b[i] {
			count++
		}
	}
	return count
}

// eachTime calls a function many times.
func eachTime(f func(*rand.Rand)) {
	r := rand.New(rand.NewSource(1))
	for range 1000 {
		f(r)
	}
}

// isZero tells whether a result is its zero value, or an empty list.
func isZero(x any) bool {
	v := reflect.ValueOf(x)
	return v.IsZero() || v.Kind() == reflect.Slice && v.Len() == 0
}

// refused fails if a call has not this error, or another result beside it.
func refused(t *testing.T, name string, result any, e, want api.Errno) {
	t.Helper()
	if e != want || !isZero(result) {
		t.Error(name, result, e, want)
	}
}

// ofTrack is a function of a track; what else it takes is wrong, too, if it can be.
type ofTrack struct {
	name string
	call func(api.LocateTrack) (any, api.Errno)
}

func ofTracks() []ofTrack {
	wrong := api.LocateReading{Seen: []int{3}, Count: -1}
	return []ofTrack{
		{"WindowsOf", func(t api.LocateTrack) (any, api.Errno) { n, e := locate.WindowsOf(t); return n, e }},
		{"WindowAt", func(t api.LocateTrack) (any, api.Errno) { l, e := locate.WindowAt(t, -1); return l, e }},
		{"DistanceOf", func(t api.LocateTrack) (any, api.Errno) { n, _, e := locate.DistanceOf(t); return n, e }},
		{"DistanceOf, pair", func(t api.LocateTrack) (any, api.Errno) { _, pair, e := locate.DistanceOf(t); return pair, e }},
		{"Near", func(t api.LocateTrack) (any, api.Errno) { l, e := locate.Near(t, wrong.Seen); return l, e }},
		{"Told", func(t api.LocateTrack) (any, api.Errno) { n, e := locate.Told(t, wrong.Seen); return n, e }},
		{"Always", func(t api.LocateTrack) (any, api.Errno) { is, e := locate.Always(t); return is, e }},
		{"MostUnread", func(t api.LocateTrack) (any, api.Errno) { n, e := locate.MostUnread(t); return n, e }},
		{"TeethOf", func(t api.LocateTrack) (any, api.Errno) { n, e := locate.TeethOf(t); return n, e }},
		{"ToothAt", func(t api.LocateTrack) (any, api.Errno) { n, e := locate.ToothAt(t, -1); return n, e }},
		{"PlacesOf", func(t api.LocateTrack) (any, api.Errno) { x, e := locate.PlacesOf(t, -1); return x, e }},
		{"Possible", func(t api.LocateTrack) (any, api.Errno) { l, e := locate.Possible(t, wrong); return l, e }},
		{"PlaceOf", func(t api.LocateTrack) (any, api.Errno) { x, e := locate.PlaceOf(t, wrong); return x, e }},
	}
}
