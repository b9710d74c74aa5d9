package levitate_test

import (
	"math"
	"math/rand"
	"strings"
	"testing"

	"guideway/api"
	"guideway/levitate"
)

// P2.8
func TestFormatStates(t *testing.T) {
	for _, c := range []struct {
		states [][]int
		want   string
	}{
		{nil, ""},
		{[][]int{{}}, ""},
		{[][]int{{0}}, "0"},
		{[][]int{{20, -10}, {11, -1}}, "20 -10;11 -1"},
		{[][]int{{1}, {2, 3, 4, 5}, {-6}}, "1;2 3 4 5;-6"},
		{[][]int{{}, {1}, nil, {}}, ";1;;"},
		{[][]int{{math.MinInt, math.MaxInt}}, "-9223372036854775808 9223372036854775807"},
	} {
		if s := levitate.FormatStates(c.states); s != c.want {
			t.Errorf("%v: %q", c.states, s)
		}
	}
}

// P2.8
func TestParseStates(t *testing.T) {
	for _, c := range []struct {
		text string
		want [][]int
	}{
		{"", nil},
		{"0", [][]int{{0}}},
		{"20 -10;11 -1", [][]int{{20, -10}, {11, -1}}},
		{"1;2 3 4 5;-6", [][]int{{1}, {2, 3, 4, 5}, {-6}}},
		{"999999999 -999999999", [][]int{{999999999, -999999999}}},
		{"100000000;-10;0 0", [][]int{{100000000}, {-10}, {0, 0}}},
		{strings.Repeat("7;", 100000) + "7", repeated(100001, 7)},
	} {
		if l, e := levitate.ParseStates(c.text); !sameRows(l, c.want) || e != api.OK {
			t.Errorf("%.40q: %v %v", c.text, len(l), e)
		}
	}
	for _, text := range []string{
		" ", ";", "1;", ";1", "1;;2", "20 -10;", "1 ", " 1", "1  2", "1 ;2", "1; 2", "1\t2", "1\n", "1,2",
		"-", "--1", "+1", "-0", "00", "01", "-01", "1-", "1 -", "a", "1a", "a1", "1.0", "1e3", "0x1", "1_0", "٣",
		"1000000000", "-1000000000", "0000000001", "12345678901234567890123", "1 2;3 x", "1;2\x00", "\xff",
		"-9223372036854775808",
	} {
		if l, e := levitate.ParseStates(text); len(l) != 0 || e != api.ErrSyntax {
			t.Errorf("%q: %v %v", text, l, e)
		}
	}
}

func repeated(times, number int) [][]int {
	var out [][]int
	for range times {
		out = append(out, []int{number})
	}
	return out
}

// P2.14
func TestParseUndoesFormat(t *testing.T) {
	r := rand.New(rand.NewSource(1))
	for range 500 {
		var states [][]int
		for range between(r, 0, 6) {
			most := []int{1, 12, api.MaxLevitateState, 999999999}[r.Intn(4)]
			states = append(states, someState(r, between(r, 1, 5), most))
		}
		if l, e := levitate.ParseStates(levitate.FormatStates(states)); !sameRows(l, states) || e != api.OK {
			t.Fatal(states, l, e)
		}
	}
	l := []api.LevitateSample{sample(0, 1, -1), sample(0, 0, 0)}
	run, _ := levitate.RunOf(small(), []int{20, -10}, l)
	if back, e := levitate.ParseStates(levitate.FormatStates(run)); !sameRows(back, run) || len(back) != 2 || e != api.OK {
		t.Error(run, back, e)
	}
}
