package line_test

import (
	"math/big"
	"math/rand"
	"reflect"
	"slices"
	"strconv"
	"testing"

	"guideway/api"
	"guideway/line"
)

// short is the line of the chapter's examples.
func short() api.LineLine {
	return api.LineLine{
		Name:   "short",
		Joints: []api.LineJoint{{}, {Up: 100}, {Across: 200, Up: 100}},
		Beams:  []api.LineBeam{{Length: 10000}, {Length: 10000, Cant: 100}},
	}
}

// bending is the line of the examples with the switch bend, and another one beside it.
func bending() api.LineLine {
	l := short()
	l.Joints = append(l.Joints, api.LineJoint{Across: 400}, api.LineJoint{Across: -300, Up: -50, Off: api.Range{Lo: -4, Hi: 7}})
	l.Beams = append(l.Beams, api.LineBeam{Length: 1000, Cant: -300}, api.LineBeam{Length: 30000, Cant: 300})
	l.Switches = []api.LineSwitch{{Name: "bend", First: 1, Across: []int{50}}, {Name: "by", First: 2, Across: []int{-20000, 20000}}}
	return l
}

func changed(l api.LineLine, change func(*api.LineLine)) api.LineLine {
	change(&l)
	return l
}

// straight is a line of as many beams of 1000, all joints at one place across and up.
func straight(beams int) api.LineLine {
	return api.LineLine{
		Name:   "s",
		Joints: make([]api.LineJoint, beams+1),
		Beams:  slices.Repeat([]api.LineBeam{{Length: 1000}}, beams),
	}
}

func copied(l api.LineLine) api.LineLine {
	l.Joints = slices.Clone(l.Joints)
	l.Beams = slices.Clone(l.Beams)
	l.Switches = slices.Clone(l.Switches)
	for i := range l.Switches {
		l.Switches[i].Across = slices.Clone(l.Switches[i].Across)
	}
	return l
}

// alike compares lines; nil lists and empty ones are the same.
func alike(a, b api.LineLine) bool {
	same := func(x, y api.LineSwitch) bool {
		return x.Name == y.Name && x.First == y.First && slices.Equal(x.Across, y.Across)
	}
	return a.Name == b.Name && slices.Equal(a.Joints, b.Joints) && slices.Equal(a.Beams, b.Beams) &&
		slices.EqualFunc(a.Switches, b.Switches, same)
}

func between(r *rand.Rand, lo, hi int) int {
	return lo + r.Intn(hi-lo+1)
}

// oneOf is often an end of a range: there mistakes are found.
func oneOf(r *rand.Rand, lo, hi int) int {
	switch r.Intn(5) {
	case 0:
		return lo
	case 1:
		return hi
	}
	return between(r, lo, hi)
}

// someLine is a right line; across tells how far across its joints stand.
func someLine(r *rand.Rand, across int) api.LineLine {
	beams := between(r, 1, 8)
	l := api.LineLine{Name: "L" + strconv.Itoa(r.Intn(1000))}
	for i := range beams + 1 {
		off := api.Range{Lo: oneOf(r, -api.MaxLineOff, api.MaxLineOff)}
		off.Hi = oneOf(r, off.Lo, api.MaxLineOff)
		l.Joints = append(l.Joints, api.LineJoint{Across: oneOf(r, -across, across), Up: oneOf(r, -20000, 20000), Off: off})
		if i < beams {
			length := []int{1000, 1500, 30000, between(r, 1000, 30000)}[r.Intn(4)]
			l.Beams = append(l.Beams, api.LineBeam{Length: length, Cant: oneOf(r, -300, 300)})
		}
	}
	for first := 1; first < beams && len(l.Switches) < api.MaxLineSwitches && r.Intn(3) > 0; {
		s := api.LineSwitch{Name: "s-" + strconv.Itoa(first), First: first}
		for range between(r, 1, beams-first) {
			s.Across = append(s.Across, oneOf(r, -20000, 20000))
		}
		l.Switches = append(l.Switches, s)
		first += len(s.Across)
	}
	r.Shuffle(len(l.Switches), func(i, k int) { l.Switches[i], l.Switches[k] = l.Switches[k], l.Switches[i] })
	return l
}

func someVehicle(r *rand.Rand) api.LineVehicle {
	return api.LineVehicle{
		Length: oneOf(r, api.MinLineVehicle, api.MaxLineVehicle),
		Clear:  oneOf(r, 0, api.MaxLineClear),
		Step:   []int{500, 1000, 777, api.MaxLineStep}[r.Intn(4)],
	}
}

// eachLine calls a function with many right lines.
func eachLine(t *testing.T, across int, f func(*rand.Rand, api.LineLine)) {
	t.Helper()
	r := rand.New(rand.NewSource(1))
	for range 300 {
		l := someLine(r, across)
		if m, e := line.CheckLine(l); e != api.OK {
			t.Fatal(l, m, e)
		}
		f(r, l)
	}
}

func placesOf(l api.LineLine) []int {
	places := []int{0}
	for _, b := range l.Beams {
		places = append(places, places[len(places)-1]+b.Length)
	}
	return places
}

// poses are the numbers of all poses, as the chapter tells them.
func poses(l api.LineLine, v api.LineVehicle) []int {
	var out []int
	places := placesOf(l)
	for p := 0; p+v.Length <= places[len(places)-1]; p += v.Step {
		out = append(out, p)
	}
	return out
}

func beneath(l api.LineLine, v api.LineVehicle, p int) []int {
	var out []int
	for i, place := range placesOf(l) {
		if place > p && place < p+v.Length {
			out = append(out, i)
		}
	}
	return out
}

func rat(num, den int) *big.Rat {
	return big.NewRat(int64(num), int64(den))
}

func ratOf(x api.Frac) *big.Rat {
	return rat(x.Num, x.Den)
}

// isLowest tells whether a fraction is in lowest terms with Den above 0.
func isLowest(x api.Frac) bool {
	if x.Den <= 0 {
		return false
	}
	r := ratOf(x)
	return r.Num().Int64() == int64(x.Num) && r.Denom().Int64() == int64(x.Den)
}

func roundedDown(x *big.Rat) int {
	return int(new(big.Int).Div(x.Num(), x.Denom()).Int64()) // Euclidean: down, as the denominator is above 0
}

func roundedUp(x *big.Rat) int {
	return -roundedDown(new(big.Rat).Neg(x))
}

// isZero tells whether a result is its zero value, or an empty list.
func isZero(x any) bool {
	v := reflect.ValueOf(x)
	return v.IsZero() || v.Kind() == reflect.Slice && v.Len() == 0
}
