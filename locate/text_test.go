package locate_test

import (
	"fmt"
	"math"
	"math/rand"
	"reflect"
	"slices"
	"strings"
	"testing"

	"guideway/api"
	"guideway/locate"
)

// P4.7
func TestFormatReading(t *testing.T) {
	for _, c := range []struct {
		x    api.LocateReading
		want string
	}{
		{api.LocateReading{Seen: []int{0, 2, 1}, Count: 1}, "0?1 1"},
		{api.LocateReading{Seen: []int{0}}, "0 0"},
		{api.LocateReading{}, " 0"},
		{api.LocateReading{Seen: []int{-1, 3, 48, 49, 256, 257, math.MaxInt, math.MinInt, 1}, Count: -17}, "????????1 -17"},
		{api.LocateReading{Seen: slices.Repeat([]int{1}, 50), Count: math.MinInt}, strings.Repeat("1", 50) + " -9223372036854775808"},
	} {
		before := slices.Clone(c.x.Seen)
		if s := locate.FormatReading(c.x); s != c.want {
			t.Error(c, s)
		}
		if !slices.Equal(before, c.x.Seen) {
			t.Error("changed", c)
		}
	}
}

// P4.7
func TestParseReading(t *testing.T) {
	for _, c := range []struct {
		text string
		want api.LocateReading
	}{
		{"0?1 1", api.LocateReading{Seen: []int{0, 2, 1}, Count: 1}},
		{"? 0", api.LocateReading{Seen: []int{2}}},
		{"1 9999", api.LocateReading{Seen: []int{1}, Count: 9999}},
		{"0 1000", api.LocateReading{Seen: []int{0}, Count: 1000}},
		{strings.Repeat("01", 50) + " 10", api.LocateReading{Seen: slices.Repeat([]int{0, 1}, 50), Count: 10}},
	} {
		if x, e := locate.ParseReading(c.text); !reflect.DeepEqual(x, c.want) || e != api.OK {
			t.Error(c, x, e)
		}
	}
	for _, text := range []string{
		"", " ", "0", "0 ", " 1", "01", "1 1 1", "0?1  1", " 0?1 1", "0?1 1 ", "0?1\t1", "0?1 1\n", "0?1\n1", "\n0 1",
		"0?2 1", "0-1 1", "0a1 1", "0/1 1", "0:1 1", "0@1 1", "0>1 1", "0\x001 1", "0٠ 1", "\xff 1", "a0?1 1", "2 1", "0 1 1",
		"0?1 +1", "0?1 -1", "0?1 -0", "0?1 01", "0?1 00", "0?1 0000", "0?1 10000", "0?1 00001", "0?1 1a", "0?1 a1", "0?1 ?", "0?1 0x1",
		"0?1 1.0", "0?1 1e3", "0?1 1_0", "0?1 ٣", "0?1 1/", "0?1 :1", "0?1 9223372036854775808", "0?1 " + strings.Repeat("1", 60001),
	} {
		x, e := locate.ParseReading(text)
		refused(t, text, x, e, api.ErrSyntax)
	}
}

// P4.7
func TestFormatTrack(t *testing.T) {
	for _, c := range []struct {
		x    api.LocateTrack
		want string
	}{
		{example(), "0011101 3 100 2 1000 5 0 0 round"},
		{changed(example(), func(t *api.LocateTrack) { t.Round = false }), "0011101 3 100 2 1000 5 0 0"},
		{api.LocateTrack{Vanes: []int{1}, Window: 1, Tooth: 2, PerVane: 3, First: 4, Modulus: 5, Slack: 6, Errors: 7}, "1 1 2 3 4 5 6 7"},
		{api.LocateTrack{}, " 0 0 0 0 0 0 0"},
		{api.LocateTrack{Vanes: []int{0, 2, -1, 49, math.MaxInt}, Window: -12, Errors: math.MinInt, Round: true},
			"0???? -12 0 0 0 0 0 -9223372036854775808 round"},
	} {
		before := changed(c.x, func(*api.LocateTrack) {})
		if s := locate.FormatTrack(c.x); s != c.want {
			t.Error(c, s)
		}
		if !same(before, c.x) {
			t.Error("changed", c)
		}
	}
}

// P4.7
func TestParseTrack(t *testing.T) {
	most := api.LocateTrack{
		Vanes: slices.Repeat([]int{0, 1}, 20), Window: 12, Tooth: 1000, PerVane: 11, First: 999000000,
		Modulus: 999, Slack: 998, Errors: 10, Round: true,
	}
	for _, c := range []struct {
		text string
		want api.LocateTrack
	}{
		{"0011101 3 100 2 1000 5 0 0 round", example()},
		{"0011101 3 100 2 1000 5 0 0", changed(example(), func(t *api.LocateTrack) { t.Round = false })},
		{"1 1 1 1 0 1 0 0", api.LocateTrack{Vanes: []int{1}, Window: 1, Tooth: 1, PerVane: 1, Modulus: 1}},
		{strings.Repeat("01", 20) + " 12 1000 11 999000000 999 998 10 round", most},
	} {
		if x, e := locate.ParseTrack(c.text); !same(x, c.want) || e != api.OK {
			t.Error(c, x, e)
		}
	}
	numbers := "3 100 2 1000 5 0 0"
	for _, text := range []string{
		"", " ", "0", "0011101", "0011101 ", "round", " round", numbers, " " + numbers, " " + numbers + " round",
		"0?11101 " + numbers, "0211101 " + numbers, "0011101a " + numbers, "0-1 " + numbers, "٠01 " + numbers, "\xff01 " + numbers,
		"0011101 3 100 2 1000 5 0", "0011101 3 100 2 1000 5 0 round", "0011101 3 100 2 1000 5 0 0 0", "0011101 3 100 2 1000 5 0 0 0 round",
		"0011101 " + numbers + " open", "0011101 " + numbers + " Round", "0011101 " + numbers + " round round", "0011101 " + numbers + " round ",
		"0011101 " + numbers + "  round", "0011101 " + numbers + "round", "0011101 " + numbers + "\tround", "0011101 " + numbers + " roun",
		"0011101 " + numbers + " ", "0011101 " + numbers + "\n", " 0011101 " + numbers, "0011101  " + numbers, "0011101\t" + numbers,
		"0011101 3  100 2 1000 5 0 0", "0011101 3 100 2 1000 5 0  0", "0011101 round " + numbers, "round " + numbers,
	} {
		x, e := locate.ParseTrack(text)
		refused(t, text, x, e, api.ErrSyntax)
	}
	for i := range 7 {
		for _, word := range []string{"-3", "+3", "-0", "03", "00", "", "a", "3a", "a3", "?", "1000000000", "0000000003", "1.0", "1e2", "1_0", "٣", "3/", ":3", "0x3", strings.Repeat("9", 60001)} {
			words := strings.Split(numbers, " ")
			words[i] = word
			text := "0011101 " + strings.Join(words, " ")
			x, e := locate.ParseTrack(text)
			refused(t, text, x, e, api.ErrSyntax)
		}
	}
}

// P4.7
func TestParseTrackErrors(t *testing.T) {
	for _, c := range []struct {
		text string
		want api.Errno
	}{
		{"00 3 100 2 1000 5 0 0", api.ErrShape},
		{"0011101 0 100 2 1000 5 0 0", api.ErrRange},
		{"0011101 13 100 2 1000 5 0 0 round", api.ErrRange},
		{strings.Repeat("0", 41) + " 3 100 2 1000 5 0 0", api.ErrLarge},
		{strings.Repeat("0", 60001) + " 3 100 2 1000 5 0 0", api.ErrLarge},
		{strings.Repeat("0", 60001) + " 13 100 2 1000 5 0 0", api.ErrRange},
		{"0011101 3 0 2 1000 5 0 0", api.ErrRange},
		{"0011101 3 1001 2 1000 5 0 0", api.ErrRange},
		{"0011101 3 100 0 1000 5 0 0", api.ErrRange},
		{"0011101 3 100 13 1000 5 0 0", api.ErrRange},
		{"0011101 3 100 2 999000001 5 0 0", api.ErrRange},
		{"0011101 3 100 2 1000 0 0 0", api.ErrRange},
		{"0011101 3 100 2 1000 1001 0 0", api.ErrRange},
		{"0011101 3 100 2 1000 5 6 0", api.ErrRange},
		{"0011101 3 100 2 1000 5 0 4", api.ErrRange},
		{"0011101 999999999 100 2 1000 5 0 0", api.ErrRange},
	} {
		x, e := locate.ParseTrack(c.text)
		refused(t, c.text, x, e, c.want)
	}
}

// P4.13
func TestParseUndoesFormat(t *testing.T) {
	eachTime(func(r *rand.Rand) {
		x := someTrack(r, 12, 40)
		if back, e := locate.ParseTrack(locate.FormatTrack(x)); !same(back, x) || e != api.OK {
			t.Fatal(x, back, e)
		}
		reading := someReading(r, x)
		if back, e := locate.ParseReading(locate.FormatReading(reading)); !reflect.DeepEqual(back, reading) || e != api.OK {
			t.Fatal(fmt.Sprint(reading), back, e)
		}
	})
}
