package lock_test

import (
	"math"
	"math/rand"
	"regexp"
	"strconv"
	"strings"
	"testing"

	"guideway/api"
	"guideway/lock"
)

// The forms of texts.
const (
	number    = `(0|[1-9][0-9]{0,3})`
	eventForm = `^((place|request|turn) ` + number + `|(enter|leave|give|take)) ` + number + `$`
	stateForm = `^(-|[01]+) ` + number + `( (-|` + number + `:` + number + `(,` + number + `)*))+$`
)

// P6.7
func TestFormatEvent(t *testing.T) {
	for text, v := range map[string]api.LockEvent{
		"place 0 1":    {Kind: api.LockPlace, B: 1},
		"request 2 10": {Kind: api.LockRequest, A: 2, B: 10},
		"turn 3 0":     {Kind: api.LockTurn, A: 3},
		"enter 0":      {Kind: api.LockEnter},
		"leave 1":      {Kind: api.LockLeave, A: 1},
		"give 2":       {Kind: api.LockGive, A: 2, B: 7}, // what a kind does not have is not told
		"take 250":     {Kind: api.LockTake, A: 250, B: -1},
		"place -1 -20": {Kind: api.LockPlace, A: -1, B: -20},
		"turn " + strconv.Itoa(math.MinInt) + " " + strconv.Itoa(math.MaxInt): {Kind: api.LockTurn, A: math.MinInt, B: math.MaxInt},
	} {
		if s := lock.FormatEvent(v); s != text {
			t.Error(v, s, text)
		}
	}
	for _, kind := range outside(0, 6) {
		if s := lock.FormatEvent(api.LockEvent{Kind: kind, A: 1, B: 1}); s != "" {
			t.Error(kind, s)
		}
	}
}

// P6.7
func TestParseEvent(t *testing.T) {
	for text, want := range map[string]api.LockEvent{
		"place 0 1":         {Kind: api.LockPlace, B: 1},
		"request 9999 1000": {Kind: api.LockRequest, A: 9999, B: 1000},
		"turn 3 0":          {Kind: api.LockTurn, A: 3},
		"enter 0":           {Kind: api.LockEnter},
		"leave 1":           {Kind: api.LockLeave, A: 1},
		"give 20":           {Kind: api.LockGive, A: 20},
		"take 9999":         {Kind: api.LockTake, A: 9999},
	} {
		if v, e := lock.ParseEvent(text); e != api.OK || v != want {
			t.Error(text, v, e)
		}
	}
	for _, text := range []string{
		"", " ", "place", "place ", "place 0", "place 0 ", "place 0 0 ", "place 0 0 0", " place 0 0", "place  0 0", "place 0  0", "place\t0 0",
		"place 0 0\n", "place 00 0", "place 0 01", "place -1 0", "place 0 -1", "place -0 0", "place +1 0", "place 10000 0", "place 0 10000",
		"place a 0", "place 0 :", "place 0 /", "place 1. 0", "place 0,0", "place 0 0x1", "place 1_0 0", "place ١ 0", "Place 0 0", "plac 0 0", "places 0 0",
		"enter", "enter ", "enter 0 0", "enter 00", "enter 10000", "enter -1", "leave 0 0", "give 0 0", "take", "take 0 0", "turn 0", "request 1",
		"0 0", "0 place 0", "place 0 0 place 0 0", "- 0", "kind 0", "?",
	} {
		v, e := lock.ParseEvent(text)
		refused(t, text, v, e, api.ErrSyntax)
	}
	long := strings.Repeat("place 0 ", 20000)
	v, e := lock.ParseEvent(long)
	refused(t, "a long text", v, e, api.ErrSyntax)
}

// P6.7
func TestFormatState(t *testing.T) {
	for text, x := range map[string]api.LockState{
		"- 0":                  {},
		"- 0 -":                {Trains: []api.LockTrain{{}}},
		"0 0 1:0,1 -":          {Switches: []int{0}, Trains: []api.LockTrain{{Chain: []int{0, 1}, Under: 1}, {Chain: []int{}}}},
		"01?? 250 12:10,0 3:7": {Switches: []int{0, 1, 2, -1}, Counter: 250, Trains: []api.LockTrain{{Chain: []int{10, 0}, Under: 12}, {Chain: []int{7}, Under: 3}}},
		"? -1 2: -3: 0:5":      {Switches: []int{math.MaxInt}, Counter: -1, Trains: []api.LockTrain{{Under: 2}, {Under: -3}, {Chain: []int{5}}}},
		"10 9999 -1:-2,-3":     {Switches: []int{1, 0}, Counter: 9999, Trains: []api.LockTrain{{Chain: []int{-2, -3}, Under: -1}}},
		strings.Repeat("1", 100) + " 5" + strings.Repeat(" -", 100): {Switches: ones(100), Counter: 5, Trains: make([]api.LockTrain, 100)},
	} {
		if s := lock.FormatState(x); s != text {
			t.Error(x, s, text)
		}
	}
}

// ones is a list of that many ones.
func ones(count int) []int {
	list := make([]int, count)
	for i := range list {
		list[i] = 1
	}
	return list
}

// P6.7
func TestParseState(t *testing.T) {
	for text, want := range map[string]api.LockState{
		"- 0 -":                {Trains: []api.LockTrain{{}}},
		"0 0 1:0,1 -":          {Switches: []int{0}, Trains: []api.LockTrain{{Chain: []int{0, 1}, Under: 1}, {}}},
		"0110 9999 12:10,0 -":  {Switches: []int{0, 1, 1, 0}, Counter: 9999, Trains: []api.LockTrain{{Chain: []int{10, 0}, Under: 12}, {}}},
		"- 250 0:5 0:9999,0,0": {Counter: 250, Trains: []api.LockTrain{{Chain: []int{5}}, {Chain: []int{9999, 0, 0}}}},
		strings.Repeat("1", 100) + " 5" + strings.Repeat(" -", 100): {Switches: ones(100), Counter: 5, Trains: make([]api.LockTrain, 100)},
	} {
		if x, e := lock.ParseState(text); e != api.OK || !same(x, want) {
			t.Error(text, x, e)
		}
	}
	for _, text := range []string{
		"", " ", "  ", "   ", "0", "0 0", "- 0", "0 0 ", "2 0 -", "? 0 -", "01? 0 -", "a 0 -", " 0 -", "-- 0 -", "-0 0 -", "0- 0 -", "+ 0 -", "0,1 0 -",
		"0  0 -", "0 0  -", "0 0 - ", " 0 0 -", "0 0 -  -", "0\t0 -", "0 0 -\n", "0 00 -", "0 01 -", "0 -1 -", "0 - -", "0 10000 -", "0 a -", "0 -0 -",
		"0 0 1:", "0 0 1:0,", "0 0 1:,0", "0 0 1:0,,1", "0 0 :0", "0 0 :", "0 0 1", "0 0 1:0 ", "0 0 1:00", "0 0 01:0", "0 0 -1:0", "0 0 1:-1", "0 0 1:0,-1",
		"0 0 1:0:1", "0 0 1::0", "0 0 10000:0", "0 0 1:10000", "0 0 1:0,10000", "0 0 1:0;1", "0 0 --", "0 0 -:0", "0 0 1:-", "0 0 1:0 1", "0 0 - x", "0 0 x -",
		"0 0 1,0", "0 0 1:0.1", "0 0 ١:0", "\xff 0 -", "١ 0 -",
	} {
		x, e := lock.ParseState(text)
		refused(t, text, x, e, api.ErrSyntax)
	}
}

// P6.7: texts that are nearly right.
func TestSpoiltTexts(t *testing.T) {
	r := rand.New(rand.NewSource(1))
	parts := []string{"", " ", "0", "1", "12", "00", "999", "-", "-1", ":", ",", "1:0", "?", "a", "\n", "enter", "place"}
	count := map[bool]int{}
	events, states := regexp.MustCompile(eventForm), regexp.MustCompile(stateForm)
	for range 30000 {
		text := []string{"place 0 12", "turn 1 0", "enter 3", "01 12 - 2:0,12", "- 0 1:3 -"}[r.Intn(5)]
		for range r.Intn(4) {
			from := r.Intn(len(text) + 1)
			to := min(len(text), from+r.Intn(3))
			text = text[:from] + parts[r.Intn(len(parts))] + text[to:]
		}
		v, e := lock.ParseEvent(text)
		isEvent := events.MatchString(text)
		if (e == api.OK) != isEvent || isEvent && lock.FormatEvent(v) != text {
			t.Error(strconv.Quote(text), v, e)
		}
		x, f := lock.ParseState(text)
		isState := states.MatchString(text)
		if (f == api.OK) != isState || isState && lock.FormatState(x) != text {
			t.Error(strconv.Quote(text), x, f)
		}
		if !isEvent {
			refused(t, text, v, e, api.ErrSyntax)
		}
		if !isState {
			refused(t, text, x, f, api.ErrSyntax)
		}
		count[isEvent || isState]++
	}
	if count[true] < 1000 || count[false] < 1000 {
		t.Error(count)
	}
}

// P6.14
func TestParseUndoesFormat(t *testing.T) {
	for _, p := range []api.LockPlant{example(), plain(), only(), largest()} {
		for _, v := range rightEvents(p) {
			if u, e := lock.ParseEvent(lock.FormatEvent(v)); e != api.OK || u != v {
				t.Error(v, u, e)
			}
		}
	}
	eachState(t, func(r *rand.Rand, p api.LockPlant, x api.LockState) {
		x.Counter = r.Intn(251)
		if y, e := lock.ParseState(lock.FormatState(x)); e != api.OK || !same(x, y) {
			t.Error(x, y, e)
		}
	})
}
