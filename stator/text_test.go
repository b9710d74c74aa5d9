package stator_test

import (
	"math"
	"math/rand"
	"strings"
	"testing"

	"guideway/api"
	"guideway/stator"
)

// P3.8
func TestFormatVector(t *testing.T) {
	for _, c := range []struct {
		v    api.Third
		want string
	}{
		{api.Third{A: -2, B: 5}, "-2,5"},
		{api.Third{}, "0,0"},
		{api.Third{A: 100000, B: -100000}, "100000,-100000"},
		{api.Third{A: 1234567, B: -7654321}, "1234567,-7654321"},
		{api.Third{A: math.MinInt, B: math.MaxInt}, "-9223372036854775808,9223372036854775807"},
	} {
		if s := stator.FormatVector(c.v); s != c.want {
			t.Error(c, s)
		}
	}
}

// P3.8
func TestParseVector(t *testing.T) {
	for _, c := range []struct {
		text string
		want api.Third
	}{
		{"-2,5", api.Third{A: -2, B: 5}},
		{"0,0", api.Third{}},
		{"10,-100", api.Third{A: 10, B: -100}},
		{"100000,-100000", api.Third{A: 100000, B: -100000}},
		{"-99999,99999", api.Third{A: -99999, B: 99999}},
	} {
		if v, e := stator.ParseVector(c.text); v != c.want || e != api.OK {
			t.Error(c, v, e)
		}
	}
	for _, text := range []string{"100001,0", "0,100001", "-100001,0", "0,-100001", "999999,-999999", "100001,999999"} {
		v, e := stator.ParseVector(text)
		refused(t, text, v, e, api.ErrRange)
	}
	for _, text := range []string{
		"", ",", "1", "1,", ",1", "1,2,", "1,2,3", ",1,2", "1,,2", "1;2", "1 2", "1 ,2", "1, 2", " 1,2", "1,2 ", "1,2\n", "\t1,2",
		"-0,5", "5,-0", "00,1", "1,00", "01,2", "1,02", "-01,2", "1,-02", "+1,2", "1,+2", "--1,2", "1,--2", "-,1", "1,-", "1-,2",
		"1000000,0", "0,1000000", "-1000000,0", "0,-1000000", "0000001,0", "100001,0,", "a,1", "1,a", "1a,2", "1,2a", "0x1,2",
		"1.0,2", "1e3,2", "1_0,2", "٣,1", "1,\x00", "\xff,1", "1\x00,2", "/,:", ":,1", "1,/",
		"9223372036854775808,0", "-9223372036854775809,0", strings.Repeat("1", 60001), "1000000,100001",
	} {
		v, e := stator.ParseVector(text)
		refused(t, text, v, e, api.ErrSyntax)
	}
}

// P3.17
func TestParseUndoesFormat(t *testing.T) {
	eachTime(func(r *rand.Rand) {
		v := someVector(r, someMost(r))
		if back, e := stator.ParseVector(stator.FormatVector(v)); back != v || e != api.OK {
			t.Fatal(v, back, e)
		}
	})
}
