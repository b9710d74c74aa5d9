package timetable_test

import (
	"math"
	"math/rand"
	"regexp"
	"strconv"
	"strings"
	"testing"

	"guideway/api"
	"guideway/timetable"
)

const exampleText = `event a
event b
event c
event d
run a b 10 20
stop b c 5 -
connect c d 3 - 4
headway a d 30 40
`

const otherText = `event Z-0-9-azAZ--
event a
turn a Z-0-9-azAZ-- 1 1
connect Z-0-9-azAZ-- a 100000 100000 0
connect a Z-0-9-azAZ-- 100000 - 100000
`

func other() api.TimetableNet {
	return api.TimetableNet{Events: []string{"Z-0-9-azAZ--", "a"}, Activities: []api.TimetableActivity{
		{Kind: turn, From: 1, To: 0, Least: 1, Most: 1},
		{Kind: connect, From: 0, To: 1, Least: 100000, Most: 100000},
		{Kind: connect, From: 1, To: 0, Least: 100000, Most: open, Wait: 100000},
	}}
}

// P8.8: the chapter's example 8, and others.
func TestPrint(t *testing.T) {
	for text, n := range map[string]api.TimetableNet{exampleText: example(), otherText: other(), "event a\n": net(1), exampleText + "stop b c 30 30\n": circular()} {
		s, e := timetable.Print(n)
		is(t, s, e, text)
	}
}

// P8.8
func TestParse(t *testing.T) {
	for text, want := range map[string]api.TimetableNet{
		exampleText:                           example(),
		otherText:                             other(),
		strings.TrimSuffix(exampleText, "\n"): example(),
		strings.ReplaceAll(otherText, "\n", "\n\n \t\n"):               other(),
		"\n\t\n" + strings.ReplaceAll(exampleText, " ", "\t  ") + "\n": example(),
		strings.ReplaceAll(" "+exampleText, "\n", " \t\n\t"):           example(),
		"event a": net(1),
		"event event\nevent run\nrun event run 1 -\nrun run event 1 -": {
			Events: []string{"event", "run"}, Activities: []api.TimetableActivity{from(0, 1, 1, open), from(1, 0, 1, open)},
		},
	} {
		n, m, e := timetable.Parse(text)
		if !alike(n, want) || m != (api.TextMark{}) || e != api.OK {
			t.Errorf("%q: %v %v %v", text, n, m, e)
		}
	}
}

// wrongText is a text, its error and its mark.
type wrongText struct {
	text         string
	line, column int
	want         api.Errno
}

func checkTexts(t *testing.T, cases ...wrongText) {
	t.Helper()
	for _, x := range cases {
		n, m, e := timetable.Parse(x.text)
		if !alike(n, api.TimetableNet{}) || m != (api.TextMark{Line: x.line, Column: x.column}) || e != x.want {
			t.Errorf("%q: %v %v %v, not %v", x.text, n, m, e, x)
		}
	}
}

const two = "event a\nevent b\n" // two lines

// P8.8, 1.: the first word.
func TestParseFirstWords(t *testing.T) {
	for _, word := range []string{"Event", "events", "even", "fly", "a", "1", "-", "RUN", "runs", "run\r", "\vrun", "event\x00", "\xff", "\r", "connection", "ünd"} {
		checkTexts(t, wrongText{word, 1, 1, api.ErrSyntax}, wrongText{" \t" + word + " 1 1", 1, 3, api.ErrSyntax},
			wrongText{two + word + " a b 1 -", 3, 1, api.ErrSyntax}, wrongText{two + "run a b 1 -\n\n " + word, 5, 2, api.ErrSyntax})
	}
	checkTexts(t,
		wrongText{two + "run a b 1 -\nevent c", 4, 1, api.ErrOrder},
		wrongText{two + "run a b 1 -\n \n\t event", 5, 3, api.ErrOrder},
		wrongText{two + "connect a b 1 - 0\nevent a b", 4, 1, api.ErrOrder},
		wrongText{two + "run a b 1 -\nevent 1\nevent c", 4, 1, api.ErrOrder},
		wrongText{two + "run a b 1\nevent c", 3, 10, api.ErrMissing},
		wrongText{two + "run a a 1 -\nevent c", 4, 1, api.ErrOrder},
		wrongText{"\r\n" + two, 1, 1, api.ErrSyntax},
	)
}

// P8.8, 2. and 3.: further words, and one more.
func TestParseFurtherWords(t *testing.T) {
	checkTexts(t,
		wrongText{"event", 1, 6, api.ErrMissing},
		wrongText{"  event \t ", 1, 8, api.ErrMissing},
		wrongText{"event\nevent a", 1, 6, api.ErrMissing},
		wrongText{"event a b", 1, 9, api.ErrSyntax},
		wrongText{"event a \t 1 2", 1, 11, api.ErrSyntax},
		wrongText{"event 1 b", 1, 7, api.ErrName},
		wrongText{"event a\r\nevent b", 1, 7, api.ErrName},
	)
	for _, name := range badNames() {
		if name != "" && !strings.ContainsAny(name, " \n") {
			checkTexts(t, wrongText{"event a\n event  " + name, 2, 9, api.ErrName}, wrongText{two + "run " + name + " b 1 -", 3, 5, api.ErrMissing})
		}
	}
	for _, word := range []string{"run", "stop", "headway", "turn", "connect"} {
		at := len(word)
		rest := ""
		if word == "connect" {
			rest = " 7"
		}
		checkTexts(t,
			wrongText{two + word, 3, at + 1, api.ErrMissing},
			wrongText{two + " \t" + word + " \t ", 3, at + 3, api.ErrMissing},
			wrongText{two + word + " a", 3, at + 3, api.ErrMissing},
			wrongText{two + word + " a b", 3, at + 5, api.ErrMissing},
			wrongText{two + word + " a\tb  1 ", 3, at + 8, api.ErrMissing},
			wrongText{two + word + " A b 1 -" + rest, 3, at + 2, api.ErrMissing},
			wrongText{two + word + " c", 3, at + 2, api.ErrMissing},
			wrongText{two + word + " c d x", 3, at + 2, api.ErrMissing},
			wrongText{two + word + "  a  aa 1 -" + rest, 3, at + 6, api.ErrMissing},
			wrongText{two + word + " a 1 1 -" + rest, 3, at + 4, api.ErrMissing},
			wrongText{two + word + " a b - -" + rest, 3, at + 6, api.ErrSyntax},
			wrongText{two + word + " a b x y z", 3, at + 6, api.ErrSyntax},
			wrongText{two + word + " a b 1 y z", 3, at + 8, api.ErrSyntax},
			wrongText{two + word + " a b 1 -- z", 3, at + 8, api.ErrSyntax},
			wrongText{two + word + " a b 1 -" + rest + " \t-", 3, at + 11 + len(rest), api.ErrSyntax},
			wrongText{two + word + " a b 1 1" + rest + " 1 1", 3, at + 10 + len(rest), api.ErrSyntax},
			wrongText{two + word + " a b 1 -" + rest + " \r\n", 3, at + 10 + len(rest), api.ErrSyntax},
		)
	}
	checkTexts(t,
		wrongText{two + "connect a b 1 -", 3, 16, api.ErrMissing},
		wrongText{two + "connect a b 1 2 \n", 3, 16, api.ErrMissing},
		wrongText{two + "connect a b 1 - -", 3, 17, api.ErrSyntax},
		wrongText{two + "connect a b 1 - -1", 3, 17, api.ErrSyntax},
		wrongText{two + "run a b 1 - 0", 3, 13, api.ErrSyntax},
		wrongText{"run a b 1 -\n" + two, 1, 5, api.ErrMissing},
	)
}

// P8.8, R9: what is a number.
func TestParseNumbers(t *testing.T) {
	for _, word := range []string{"--", "--1", "-0", "-1", "00", "01", "+1", "1234567", "0000000", "1a", "a", "1.0", "1-", "٣", "0x1", "1_0", "\x00", "/", ":", "99999999999999999999999"} {
		checkTexts(t,
			wrongText{two + "run a b " + word + " -", 3, 9, api.ErrSyntax},
			wrongText{two + "run a b 1 " + word, 3, 11, api.ErrSyntax},
			wrongText{two + "connect a b 1 - " + word, 3, 17, api.ErrSyntax},
		)
	}
	// Six digits are a number, but too great a one; so are less than the least ones.
	checkTexts(t,
		wrongText{two + " run a b 999999 -", 3, 1, api.ErrRange},
		wrongText{two + "run a b 100001 -", 3, 1, api.ErrRange},
		wrongText{two + "run a b 0 -", 3, 1, api.ErrRange},
		wrongText{two + "run a b 1 999999", 3, 1, api.ErrRange},
		wrongText{two + "run a b 1 0", 3, 1, api.ErrRange},
		wrongText{two + "connect a b 1 - 999999", 3, 1, api.ErrRange},
	)
}

// P8.8: what is wrong behind all lines.
func TestParseTheWhole(t *testing.T) {
	const right = "run a b 1 -\n"
	sixteen := ""
	for i := range 16 {
		sixteen += "event " + string(rune('a'+i)) + "\n"
	}
	checkTexts(t,
		wrongText{"", 1, 1, api.ErrShape},
		wrongText{"\n", 2, 1, api.ErrShape},
		wrongText{"  \n\t", 3, 1, api.ErrShape},
		wrongText{"event a\nevent a\n", 2, 1, api.ErrExists},
		wrongText{"\n  event a\n\n\tevent b\n \n event a\n", 6, 1, api.ErrExists},
		wrongText{"event a\nevent a\nrun a a 5 4", 2, 1, api.ErrExists},
		wrongText{sixteen + "event q", 18, 1, api.ErrLarge},
		wrongText{sixteen + "event q\n\n\n", 20, 1, api.ErrLarge},
		wrongText{sixteen + "event a\n" + right, 19, 1, api.ErrLarge},
		wrongText{two + strings.Repeat(right, 31), 34, 1, api.ErrLarge},
		wrongText{two + strings.Repeat("run a b 0 0\n", 31) + "\n \t", 36, 1, api.ErrLarge},
		wrongText{"event a\nevent a\n" + strings.Repeat("run a a 1 -\n", 31), 2, 1, api.ErrExists},
		wrongText{two + "run a a 5 -", 3, 1, api.ErrDouble},
		wrongText{two + right + "\n   run b b 0 0\nrun a b 0 -", 5, 1, api.ErrDouble},
		wrongText{two + right + "\nrun a b 0 -\n run b b 0 0\n", 5, 1, api.ErrRange},
		wrongText{two + "run a b 5 4", 3, 1, api.ErrOrder},
		wrongText{"\n" + two + right + right + "\tconnect a b 5 4 100000", 6, 1, api.ErrOrder},
	)
}

// P8.8: the length of a text, ahead of all else.
func TestParseLongTexts(t *testing.T) {
	long := exampleText + strings.Repeat("\n", api.MaxText-len(exampleText))
	if n, m, e := timetable.Parse(long); !alike(n, example()) || m != (api.TextMark{}) || e != api.OK {
		t.Error(n, m, e)
	}
	checkTexts(t,
		wrongText{long + "\n", 0, 0, api.ErrLarge},
		wrongText{strings.Repeat("x", api.MaxText+1), 0, 0, api.ErrLarge},
		wrongText{strings.Repeat("x", api.MaxText), 1, 1, api.ErrSyntax},
		wrongText{strings.Repeat("\n", api.MaxText), api.MaxText + 1, 1, api.ErrShape},
		wrongText{"event" + strings.Repeat(" a", 20000), 1, 9, api.ErrSyntax},
		wrongText{strings.Repeat("event a\n", 7500), 7501, 1, api.ErrLarge},
		wrongText{two + strings.Repeat("run a b 1 -\n", 4000), 4003, 1, api.ErrLarge},
		wrongText{strings.Repeat(" ", api.MaxText-5) + "event", 1, api.MaxText + 1, api.ErrMissing},
	)
}

// P8.14: Parse undoes Print of right nets.
func TestParseUndoesPrint(t *testing.T) {
	r := rand.New(rand.NewSource(1))
	for range 500 {
		n := randomNet(r, 1+r.Intn(16), 30, one(r, 5, 50000))
		for i := range n.Events {
			n.Events[i] = string(rune('a'+i)) + one(r, "", "-", "0", "-9x", "aaaaaaaaaaa")
		}
		s, e := timetable.Print(n)
		if e != api.OK {
			t.Fatal(n, e)
		}
		if again, m, e := timetable.Parse(s); !alike(again, n) || m != (api.TextMark{}) || e != api.OK {
			t.Error(n, s, again, m, e)
		}
	}
}

// R1, R2: texts that are nearly right are parsed, or told a mark in the text or just behind it.
func TestParseSpoiledTexts(t *testing.T) {
	r := rand.New(rand.NewSource(2))
	others := []string{"event", "run", "connect", "a", "b", "x", "1", "0", "-", "12", "-5", "100001", "\n", "\t", "\r", "\xff", "event e\n", "\nrun a b 1 -"}
	found := map[api.Errno]int{}
	for range 20000 {
		words := strings.Split(strings.ReplaceAll(exampleText, "\n", " \n "), " ")
		for range 1 + r.Intn(2) {
			words[r.Intn(len(words))] = one(r, others...)
		}
		s := strings.Join(words, " ")
		n, m, e := timetable.Parse(s)
		found[e]++
		if e == api.OK {
			if _, wrong := timetable.CheckNet(n); wrong != api.OK || m != (api.TextMark{}) {
				t.Fatal(strconv.Quote(s), n, m)
			}
			continue
		}
		lines := strings.Split(s, "\n")
		if !alike(n, api.TimetableNet{}) || m.Line < 1 || m.Line > len(lines)+1 || m.Column < 1 {
			t.Fatal(strconv.Quote(s), n, m, e)
		}
		if m.Line <= len(lines) && m.Column > len(lines[m.Line-1])+1 {
			t.Fatal(strconv.Quote(s), n, m, e)
		}
	}
	if len(found) < 7 {
		t.Error("few errors are tried", found)
	}
}

// P8.8: the text of any delay.
func TestFormatDelay(t *testing.T) {
	for text, x := range map[string]api.TimetableDelay{
		"2 5":       {Event: 2, By: 5},
		"0 0":       {},
		"-1 100001": {Event: -1, By: 100001},
		strconv.Itoa(math.MinInt) + " " + strconv.Itoa(math.MaxInt): {Event: math.MinInt, By: math.MaxInt},
		strconv.Itoa(math.MaxInt) + " " + strconv.Itoa(math.MinInt): {Event: math.MaxInt, By: math.MinInt},
	} {
		if s := timetable.FormatDelay(x); s != text {
			t.Error(x, s, text)
		}
	}
}

// P8.8
func TestParseDelay(t *testing.T) {
	for text, want := range map[string]api.TimetableDelay{
		"2 5": {Event: 2, By: 5}, "0 1": {By: 1}, "15 100000": {Event: 15, By: 100000}, "999999 99999": {Event: 999999, By: 99999}, "16 10": {Event: 16, By: 10},
	} {
		x, e := timetable.ParseDelay(text)
		is(t, x, e, want)
	}
	for _, text := range []string{
		"", " ", "2", "2 ", " 2", " 2 5", "2 5 ", "2  5", "2 5 7", "2\t5", "2\n5", "2 5\n", "2\n 5", "25", "2,5", "-2 5", "2 -5", "+2 5", "2 +5", "02 5", "2 05", "00 5", "2 00", "-0 5", "2 -0",
		"1234567 5", "2 1234567", "0000002 5", "a 5", "2 a", "2 0x1", "2 1_0", "٣ 5", "2 ٣", "/ 5", ": 5", "2 /", "2 :", "2 99999999999999999999999", "2 000001", "2 0.5", "2 \x00", "a 0", "02 0", "1234567 0",
	} {
		x, e := timetable.ParseDelay(text)
		refused(t, strconv.Quote(text), x, e, api.ErrSyntax)
	}
	for _, text := range []string{"2 0", "0 0", "2 100001", "999999 999999", "0 999999"} {
		x, e := timetable.ParseDelay(text)
		refused(t, strconv.Quote(text), x, e, api.ErrRange)
	}
}

// P8.8, P8.14: texts of any small alphabet have a form, or not; ParseDelay undoes FormatDelay.
func TestParseDelayOfAnyText(t *testing.T) {
	form := regexp.MustCompile(`^(0|[1-9][0-9]{0,5}) (0|[1-9][0-9]{0,5})$`)
	r := rand.New(rand.NewSource(3))
	counts := map[api.Errno]int{}
	for range 50000 {
		var text strings.Builder
		for range r.Intn(one(r, 5, 16)) {
			text.WriteString(one(r, "0", "1", "1", "9", "5", " ", one(r, "-", "+", "a", "\t", "7", "7", " ")))
		}
		s := text.String()
		x, e := timetable.ParseDelay(s)
		counts[e]++
		switch {
		case !form.MatchString(s):
			refused(t, strconv.Quote(s), x, e, api.ErrSyntax)
		case e == api.OK:
			if again := timetable.FormatDelay(x); again != s {
				t.Error(s, x, again)
			}
		default:
			refused(t, strconv.Quote(s), x, e, api.ErrRange)
		}
	}
	if counts[api.OK] < 1000 || counts[api.ErrRange] < 300 {
		t.Error(counts)
	}
	for range 1000 {
		want := api.TimetableDelay{Event: r.Intn(16), By: 1 + r.Intn(100000)}
		x, e := timetable.ParseDelay(timetable.FormatDelay(want))
		is(t, x, e, want)
	}
}
