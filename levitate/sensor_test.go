package levitate_test

import (
	"math"
	"testing"

	"guideway/api"
	"guideway/levitate"
)

var (
	noNumber = float32(math.NaN())
	endless  = float32(math.Inf(1))
	tiny     = float32(math.SmallestNonzeroFloat32)
	minus0   = float32(math.Copysign(0, -1))
)

// P2.8
func TestMiddleOf(t *testing.T) {
	for _, c := range []struct {
		values [3]float32
		slack  int
		want   int
		err    api.Errno
	}{
		{[3]float32{100, 103, 250}, 5, 103, api.OK},
		{[3]float32{100, 103, 250}, 3, 103, api.OK},
		{[3]float32{100, 103, 250}, 2, 0, api.ErrClash},
		{[3]float32{250, 103, 100}, 3, 103, api.OK},
		{[3]float32{103, 250, 100}, 3, 103, api.OK},
		{[3]float32{103, 100, 250}, 3, 103, api.OK},
		{[3]float32{0, 147, 150}, 3, 147, api.OK},
		{[3]float32{0, 147, 150}, 2, 0, api.ErrClash},
		{[3]float32{150, 0, 147}, 2, 0, api.ErrClash},
		{[3]float32{0, 3000, 3000}, 0, 3000, api.OK},
		{[3]float32{0, 0, 3000}, 0, 0, api.OK},
		{[3]float32{minus0, 0, minus0}, 0, 0, api.OK},
		{[3]float32{7, 7, 7}, 0, 7, api.OK},
		{[3]float32{0, 1500, 3000}, 3000, 1500, api.OK},
		{[3]float32{0, 1500, 3000}, 1499, 0, api.ErrClash},
		{[3]float32{0, 1500, 3000}, 1500, 1500, api.OK},

		{[3]float32{100, 100.5, 250}, 5, 0, api.ErrForm},
		{[3]float32{100, 100, noNumber}, 5, 0, api.ErrForm},
		{[3]float32{endless, 100, 100}, 5, 0, api.ErrForm},
		{[3]float32{100, -endless, 100}, 5, 0, api.ErrForm},
		{[3]float32{tiny, 0, 0}, 5, 0, api.ErrForm},
		{[3]float32{0, -tiny, 0}, 5, 0, api.ErrForm},
		{[3]float32{0, 0, 3000.25}, 5, 0, api.ErrForm},
		{[3]float32{0, 0, -0.5}, 5, 0, api.ErrForm},
		{[3]float32{100, 103, 3001}, 5, 0, api.ErrRange},
		{[3]float32{-1, 103, 100}, 5, 0, api.ErrRange},
		{[3]float32{100, math.MaxFloat32, 100}, 5, 0, api.ErrRange},
		{[3]float32{100, -math.MaxFloat32, 100}, 5, 0, api.ErrRange},
		{[3]float32{1 << 31, 1 << 31, 1 << 31}, 5, 0, api.ErrRange},
		{[3]float32{1e19, 100, 100}, 5, 0, api.ErrRange},
		{[3]float32{100, 100, 100}, -1, 0, api.ErrRange},
		{[3]float32{100, 100, 100}, 3001, 0, api.ErrRange},
		{[3]float32{100, 100, 100}, math.MinInt, 0, api.ErrRange},

		{[3]float32{3001, 0.5, 0}, 5, 0, api.ErrRange},
		{[3]float32{0.5, 3001, 0}, 5, 0, api.ErrForm},
		{[3]float32{0, 3000.5, 0}, 5, 0, api.ErrForm},
		{[3]float32{0, 0, 0.5}, -1, 0, api.ErrForm},
		{[3]float32{0, 100, 200}, -1, 0, api.ErrRange},
	} {
		if n, e := levitate.MiddleOf(api.LevitateSensors{Values: c.values, Slack: c.slack}); n != c.want || e != c.err {
			t.Error(c, n, e)
		}
	}
}

// P2.13: if two readings are a number, that is the middle one, whatever the third one is.
func TestOneSensorMayFail(t *testing.T) {
	for _, gap := range []int{0, 1, 1499, 2999, 3000} {
		for third := 0; third <= api.MaxLevitateGap; third += 125 {
			for place := range 3 {
				values := [3]float32{float32(gap), float32(gap), float32(gap)}
				values[place] = float32(third)
				for _, slack := range []int{0, 10, 3000} {
					if n, e := levitate.MiddleOf(api.LevitateSensors{Values: values, Slack: slack}); n != gap || e != api.OK {
						t.Fatal(values, slack, n, e)
					}
				}
			}
		}
	}
}
