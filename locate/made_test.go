package locate_test

import (
	"fmt"
	"math/bits"
	"slices"
	"testing"

	"guideway/api"
	"guideway/locate"
)

// P4.4
func TestFirstTrack(t *testing.T) {
	for _, c := range []struct {
		length, window, distance int
		want                     []int
	}{
		{5, 3, 1, []int{0, 0, 0, 1, 0}},
		{5, 3, 2, []int{0, 0, 1, 0, 0}},
		{4, 3, 0, []int{0, 0, 0, 0}},
		{4, 3, 3, []int{0, 1, 0, 1}},
		{2, 1, 1, []int{0, 1}},
		{1, 1, 12, []int{0}},
		{10, 3, 1, []int{0, 0, 0, 1, 0, 1, 1, 1, 0, 0}},
		{12, 12, 12, make([]int, 12)},
		{14, 12, 0, make([]int, 14)},
		{13, 12, 12, []int{0, 1, 0, 1, 0, 1, 0, 1, 0, 1, 0, 1, 0}},
		{14, 1, 0, make([]int, 14)},
	} {
		if l, e := locate.FirstTrack(c.length, c.window, c.distance); !slices.Equal(l, c.want) || e != api.OK {
			t.Error(c, l, e)
		}
	}
}

// P4.4
func TestFirstTrackErrors(t *testing.T) {
	for _, c := range []struct {
		length, window, distance int
		want                     api.Errno
	}{
		{3, 1, 1, api.ErrNone},
		{4, 1, 1, api.ErrNone},
		{11, 3, 1, api.ErrNone},
		{2, 1, 2, api.ErrNone},
		{14, 12, 12, api.ErrNone},
		{2, 3, 1, api.ErrShape},
		{11, 12, 12, api.ErrShape},
		{1, 2, 0, api.ErrShape},
		{0, 0, 0, api.ErrRange},
	} {
		l, e := locate.FirstTrack(c.length, c.window, c.distance)
		refused(t, fmt.Sprint(c), l, e, c.want)
	}
	for _, n := range outside(1, 14) {
		l, e := locate.FirstTrack(n, 12, 1)
		refused(t, fmt.Sprint("length", n), l, e, api.ErrRange)
	}
	for _, n := range outside(1, 12) {
		l, e := locate.FirstTrack(14, n, 1)
		refused(t, fmt.Sprint("window", n), l, e, api.ErrRange)
	}
	for _, n := range outside(0, 12) {
		l, e := locate.FirstTrack(14, 3, n)
		refused(t, fmt.Sprint("distance", n), l, e, api.ErrRange)
		l, e = locate.FirstTrack(2, 3, n)
		refused(t, fmt.Sprint("distance, shape", n), l, e, api.ErrRange)
	}
}

// leastApart is the least distance of two windows of a track whose vanes are the bits of a number, the first one highest.
func leastApart(vanes uint, length, window int) int {
	least := api.MaxLocateWindow // also of one window, from which none is too near
	for i := range length - window + 1 {
		for k := range i {
			apart := bits.OnesCount((vanes>>i ^ vanes>>k) & (1<<window - 1))
			least = min(least, apart)
		}
	}
	return least
}

// P4.4, all tracks being tried.
func TestFirstTracks(t *testing.T) {
	for length := 1; length <= api.MaxLocateMade; length++ {
		for window := 1; window <= min(length, api.MaxLocateWindow); window++ {
			first := firstOfAll(length, window)
			for distance := range api.MaxLocateWindow + 1 {
				l, e := locate.FirstTrack(length, window, distance)
				if first[distance] == nil {
					refused(t, fmt.Sprint(length, window, distance), l, e, api.ErrNone)
				} else if !slices.Equal(l, first[distance]) || e != api.OK {
					t.Fatal(length, window, distance, l, e)
				}
			}
		}
	}
}

// firstOfAll is, for each distance, the first track that has it at least.
func firstOfAll(length, window int) [][]int {
	first := make([][]int, api.MaxLocateWindow+1)
	known := 0 // for distances below it the first track is known
	for vanes := range uint(1) << length {
		for least := leastApart(vanes, length, window); known <= least; known++ {
			first[known] = []int{}
			for i := length - 1; i >= 0; i-- {
				first[known] = append(first[known], int(vanes>>i&1))
			}
		}
	}
	return first
}
