package care_test

import (
	"math"
	"math/rand"
	"testing"

	"guideway/api"
	"guideway/care"
)

// P9.2: the texts of events.
func TestTextsOfEvents(t *testing.T) {
	for _, x := range []struct {
		text  string
		event api.CareEvent
	}{
		{"go", event(api.CareGo)}, {"stop 5200", stopAt(5200)}, {"stop 0", stopAt(0)}, {"gate 0", eventOfDoor(api.CareGate, 0)}, {"bar 1", eventOfDoor(api.CareBar, 1)},
		{"open 5", eventOfDoor(api.CareOpen, 5)}, {"shut 10", eventOfDoor(api.CareShut, 10)}, {"alarm", event(api.CareAlarm)}, {"calm", event(api.CareCalm)},
		{"stop 9999999999", stopAt(9999999999)}, {"gate 9999999999", eventOfDoor(api.CareGate, 9999999999)}, {"stop 1000000001", stopAt(1000000001)},
	} {
		if text := care.FormatEvent(x.event); text != x.text {
			t.Error(text, x)
		}
		e, c := care.ParseEvent(x.text)
		is(t, e, c, x.event)
	}
}

// P9.2: the text of an event is its word, and what it uses, whatever that is.
func TestFormatEvent(t *testing.T) {
	for _, x := range []struct {
		event api.CareEvent
		text  string
	}{
		{api.CareEvent{Kind: api.CareGo, Place: 3, Door: 4}, "go"}, {api.CareEvent{Kind: api.CareStop, Place: -3, Door: 4}, "stop -3"},
		{api.CareEvent{Kind: api.CareGate, Place: 3, Door: -4}, "gate -4"}, {api.CareEvent{Kind: api.CareBar, Place: 3, Door: 4}, "bar 4"},
		{api.CareEvent{Kind: api.CareOpen, Place: 3, Door: math.MinInt}, "open -9223372036854775808"}, {api.CareEvent{Kind: api.CareShut, Place: 3, Door: 4}, "shut 4"},
		{api.CareEvent{Kind: api.CareAlarm, Place: 3, Door: 4}, "alarm"}, {api.CareEvent{Kind: api.CareCalm, Place: 3, Door: 4}, "calm"},
		{event(-1), ""}, {event(8), ""}, {event(math.MinInt), ""}, {event(math.MaxInt), ""},
	} {
		if text := care.FormatEvent(x.event); text != x.text {
			t.Error(text, x)
		}
	}
}

// P9.2: texts of no event.
func TestParseEventErrors(t *testing.T) {
	for _, text := range []string{
		"", " ", "go ", " go", "go 0", "go 1", "Go", "gone", "alarm 0", "calm 0", "alarm ", "start", "0", "\ngo", "go\n", "g", "go\x00",
		"stop", "stop ", "stop  1", " stop 1", "stop 1 ", "stop 1 2", "stop -1", "stop +1", "stop -0", "stop 01", "stop 00", "stop 1.0", "stop 0x1", "stop 1_0", "stop a", "stop\t1", "stop1",
		"stop 10000000000", "stop 00000000001", "stop 99999999999999999999", "gate", "gate -1", "gate 0 ", "gate 12345678901", "bar", "bar x", "open", "open 0 0", "shut", "shut ٣", "STOP 1",
		"stop 1e3", "stop --1", "stop -", "stop +",
	} {
		e, c := care.ParseEvent(text)
		refused(t, text, e, c, api.ErrSyntax)
	}
}

// P9.14: ParseEvent undoes FormatEvent of events that fit some doors.
func TestParseUndoesFormatOfEvents(t *testing.T) {
	for _, place := range []int{0, 1, 9, 10, 999999999, 1000000000} {
		for _, x := range allEvents(6, place) {
			e, c := care.ParseEvent(care.FormatEvent(x))
			is(t, e, c, x)
		}
	}
}

// P9.7: the texts of findings, at the limits too.
func TestTextsOfFindings(t *testing.T) {
	for _, x := range []struct {
		text    string
		finding api.CareFinding
	}{
		{"ins 10 3 50", api.CareFinding{Name: "ins", Date: 10, Beam: 3, Off: 50}},
		{"a 0 0 0", api.CareFinding{Name: "a"}},
		{"A-9bcdefghij 100000 100000 -10000", api.CareFinding{Name: "A-9bcdefghij", Date: 100000, Beam: 100000, Off: -10000}},
		{"Z 1 2 10000", api.CareFinding{Name: "Z", Date: 1, Beam: 2, Off: 10000}},
		{"z- 1 2 -1", api.CareFinding{Name: "z-", Date: 1, Beam: 2, Off: -1}},
	} {
		if text := care.FormatFinding(x.finding); text != x.text {
			t.Error(text, x)
		}
		f, e := care.ParseFinding(x.text)
		is(t, f, e, x.finding)
	}
}

// P9.7: the text of a finding, whatever it is.
func TestFormatFinding(t *testing.T) {
	for _, x := range []struct {
		finding api.CareFinding
		text    string
	}{
		{api.CareFinding{}, " 0 0 0"}, {api.CareFinding{Name: "a b", Date: -1, Beam: math.MaxInt, Off: math.MinInt}, "a b -1 9223372036854775807 -9223372036854775808"},
	} {
		if text := care.FormatFinding(x.finding); text != x.text {
			t.Error(text, x)
		}
	}
}

// P9.7: what is wrong with the texts of findings.
func TestParseFindingErrors(t *testing.T) {
	for text, want := range map[string]api.Errno{
		"": api.ErrSyntax, "a": api.ErrSyntax, "a 1 2": api.ErrSyntax, "a 1 2 3 4": api.ErrSyntax, "a  1 2 3": api.ErrSyntax, " 1 2 3": api.ErrSyntax, " a 1 2 3": api.ErrSyntax,
		"a 1 2 3 ": api.ErrSyntax, "a 1  3": api.ErrSyntax, "a 1 2 ": api.ErrSyntax, "a 1 2 x": api.ErrSyntax, "a x 2 3": api.ErrSyntax, "a 1 - 3": api.ErrSyntax, "a 1 2 -0": api.ErrSyntax,
		"a 01 2 3": api.ErrSyntax, "a 1 02 3": api.ErrSyntax, "a 1 2 03": api.ErrSyntax, "a 1 2 -03": api.ErrSyntax, "a 1 2 +3": api.ErrSyntax, "a +1 2 3": api.ErrSyntax, "a 1 2 3\n": api.ErrSyntax,
		"a 1\t2 3 4": api.ErrSyntax, "a 1234567890 2 3": api.ErrSyntax, "a 1 1234567890 3": api.ErrSyntax, "a 1 2 1234567890": api.ErrSyntax, "a 1 2 -1234567890": api.ErrSyntax, "a 1 2 --3": api.ErrSyntax,
		"9 1 2 1234567890": api.ErrSyntax, "9 100001 2 x": api.ErrSyntax, "a 1 2 99999999999999999999": api.ErrSyntax, "a 1 2 0x1": api.ErrSyntax, "a 1 2 1_0": api.ErrSyntax,
		"9 1 2 3": api.ErrName, "-a 1 2 3": api.ErrName, "abcdefghijklm 1 2 3": api.ErrName, "a_ 1 2 3": api.ErrName, "\t 1 2 3": api.ErrName, "ä 1 2 3": api.ErrName, "a\n 1 2 3": api.ErrName,
		"9 100001 2 3": api.ErrName, "a: -1 -1 99999": api.ErrName, "a@ 1 2 3": api.ErrName, "a[ 1 2 3": api.ErrName, "a` 1 2 3": api.ErrName, "a{ 1 2 3": api.ErrName, "a/ 1 2 3": api.ErrName,
		"a 100001 2 3": api.ErrRange, "a -1 2 3": api.ErrRange, "a 1 100001 3": api.ErrRange, "a 1 -1 3": api.ErrRange, "a 1 2 10001": api.ErrRange, "a 1 2 -10001": api.ErrRange,
		"a 999999999 2 3": api.ErrRange, "a 1 -999999999 3": api.ErrRange, "a 1 2 -999999999": api.ErrRange,
	} {
		f, e := care.ParseFinding(text)
		refused(t, text, f, e, want)
	}
}

// P9.14: ParseFinding undoes FormatFinding of right findings.
func TestParseUndoesFormatOfFindings(t *testing.T) {
	r := rand.New(rand.NewSource(2))
	for range 2000 {
		f := api.CareFinding{Name: one(r, "a", "Z-9", "abcdefghijkl"), Date: r.Intn(100001), Beam: r.Intn(100001), Off: r.Intn(20001) - 10000}
		got, e := care.ParseFinding(care.FormatFinding(f))
		is(t, got, e, f)
	}
}
