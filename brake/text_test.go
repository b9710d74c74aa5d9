package brake_test

import (
	"math"
	"math/rand"
	"strconv"
	"strings"
	"testing"

	"guideway/api"
	"guideway/brake"
)

const exampleText = "track t\npiece 100 0 10000\npiece 100 0 8000 leave\npiece 50 -10 10000\npiece 200 0 10000 leave\n"

// P5.7
func TestPrint(t *testing.T) {
	if s, e := brake.Print(example()); s != exampleText || e != api.OK {
		t.Errorf("%q %v", s, e)
	}
	ends := api.BrakeTrack{Name: "abc-9", Pieces: []api.BrakePiece{
		{Length: 10000000, Gradient: 100, Limit: 20000000000, Leave: true}, {Length: 1, Gradient: -100},
	}}
	if s, e := brake.Print(ends); s != "track abc-9\npiece 10000000 100 20000000000 leave\npiece 1 -100 0\n" || e != api.OK {
		t.Errorf("%q %v", s, e)
	}
}

// P5.7
func TestParse(t *testing.T) {
	for _, text := range []string{
		exampleText,
		strings.TrimSuffix(exampleText, "\n"),
		strings.ReplaceAll(exampleText, "\n", "\n\n \t\n"),
		"\n\t\n" + strings.ReplaceAll(exampleText, " ", "\t  ") + "\n\n",
		strings.ReplaceAll(" "+exampleText, "\n", " \t\n\t"),
		exampleText + strings.Repeat("\n", api.MaxText-len(exampleText)),
	} {
		if x, m, e := brake.Parse(text); !same(x, example()) || m != (api.TextMark{}) || e != api.OK {
			t.Errorf("%q: %v %v %v", text, x, m, e)
		}
	}
	// names are no words of the language
	for _, name := range []string{"track", "piece", "leave", "Z", "a-"} {
		text := "track " + name + "\npiece 1 0 0 leave"
		if x, m, e := brake.Parse(text); !same(x, api.BrakeTrack{Name: name, Pieces: []api.BrakePiece{{Length: 1, Leave: true}}}) || m != (api.TextMark{}) || e != api.OK {
			t.Errorf("%q: %v %v %v", text, x, m, e)
		}
	}
}

// wrongText is a text with its mark and its error.
type wrongText struct {
	text         string
	line, column int
	want         api.Errno
}

func checkTexts(t *testing.T, cases []wrongText) {
	t.Helper()
	for _, c := range cases {
		x, m, e := brake.Parse(c.text)
		if x.Name != "" || len(x.Pieces) > 0 || m != (api.TextMark{Line: c.line, Column: c.column}) || e != c.want {
			t.Errorf("%q: %v %v %v, not %v", c.text, x, m, e, c)
		}
	}
}

// P5.7, 1.: the first word.
func TestParseFirstWords(t *testing.T) {
	checkTexts(t, []wrongText{
		{"piece 1 0 1\n", 1, 1, api.ErrSyntax},
		{"leave", 1, 1, api.ErrSyntax},
		{"  tracks t", 1, 3, api.ErrSyntax},
		{"trac t", 1, 1, api.ErrSyntax},
		{"\n \n\tTrack t", 3, 2, api.ErrSyntax},
		{"track\r t", 1, 1, api.ErrSyntax},
		{"\vtrack t", 1, 1, api.ErrSyntax},
		{"\x00", 1, 1, api.ErrSyntax},
		{"\r\n", 1, 1, api.ErrSyntax},
		{"track t\ntrack t", 2, 1, api.ErrSyntax},
		{"track t\n\n \t leave 1", 3, 4, api.ErrSyntax},
		{"track t\npiece 1 0 1\ntrack u\n", 3, 1, api.ErrSyntax},
		{"track t\npiece 1 0 1\n pieces 0 0", 3, 2, api.ErrSyntax},
		{"track t\npiece 1 0 1\npiec", 3, 1, api.ErrSyntax},
		{"track t\n1", 2, 1, api.ErrSyntax},
		// what is wrong in a line counts ahead of all in the lines behind it, and of the track
		{"trak\npiece", 1, 1, api.ErrSyntax},
		{"track t\npiece 0 0 0\nx", 3, 1, api.ErrSyntax},
	})
}

// P5.7, 2. and 3.: further words, and one more.
func TestParseFurtherWords(t *testing.T) {
	checkTexts(t, []wrongText{
		{"track", 1, 6, api.ErrMissing},
		{" track \t \npiece", 1, 7, api.ErrMissing},
		{"track 1", 1, 7, api.ErrName},
		{"track  abcdefghijklm", 1, 8, api.ErrName},
		{"track t_ leave", 1, 7, api.ErrName},
		{"track t\r", 1, 7, api.ErrName},
		{"track t leave", 1, 9, api.ErrSyntax},
		{"track t u v", 1, 9, api.ErrSyntax},
		{"track t\npiece", 2, 6, api.ErrMissing},
		{"track t\n\tpiece \t", 2, 7, api.ErrMissing},
		{"track t\npiece 1", 2, 8, api.ErrMissing},
		{"track t\npiece 1  0 \n", 2, 11, api.ErrMissing},
		{"track t\npiece leave", 2, 7, api.ErrSyntax},
		{"track t\npiece 1 0 leave", 2, 11, api.ErrSyntax},
		{"track t\npiece 1 x leave y", 2, 9, api.ErrSyntax},
		{"track t\npiece x", 2, 7, api.ErrSyntax},
		{"track t\npiece -1 0 1", 2, 7, api.ErrSyntax},
		{"track t\npiece 1 0 -1", 2, 11, api.ErrSyntax},
		{"track t\npiece 1 0 1 left\n", 2, 13, api.ErrSyntax},
		{"track t\npiece 1 0 1 Leave\n", 2, 13, api.ErrSyntax},
		{"track t\npiece 1 0 1 leave\r\n", 2, 13, api.ErrSyntax},
		{"track t\npiece 1 0 1\r\n", 2, 11, api.ErrSyntax},
		{"track t\npiece 1 0 1 2\n", 2, 13, api.ErrSyntax},
		{"track t\npiece 1 0 1 leaves leave\n", 2, 13, api.ErrSyntax},
		{"track t\npiece 1 0 1 leave leave\n", 2, 19, api.ErrSyntax},
		{"track t\npiece 1 0 1  leave\t x y", 2, 21, api.ErrSyntax},
		{"track t\npiece 1 0 1 leave\n\npiece 1 0 1\npiece 1 0\npiece", 5, 10, api.ErrMissing},
	})
}

// P5.7, R9: what is a number.
func TestParseNumbers(t *testing.T) {
	for _, no := range []string{"-", "--1", "-0", "00", "01", "-01", "+1", "123456789012", "-123456789012", "000000000000", "1a", "a", "1.0", "1-", "٣", "0x1", "1_0", "\x00", "1e3", "1,"} {
		checkTexts(t, []wrongText{
			{"track t\npiece " + no + " 0 0", 2, 7, api.ErrSyntax},
			{"track t\npiece 1 " + no + " 0", 2, 9, api.ErrSyntax},
			{"track t\npiece 1 0 " + no, 2, 11, api.ErrSyntax},
		})
	}
	// Eleven digits are a number, but too great a one.
	checkTexts(t, []wrongText{
		{"track t\npiece 99999999999 0 0", 2, 1, api.ErrRange},
		{"track t\npiece 1 99999999999 0", 2, 1, api.ErrRange},
		{"track t\npiece 1 -99999999999 0", 2, 1, api.ErrRange},
		{"track t\npiece 1 0 20000000001", 2, 1, api.ErrRange},
	})
}

// P5.7: what is wrong behind all lines.
func TestParseTheWhole(t *testing.T) {
	checkTexts(t, []wrongText{
		{"", 1, 1, api.ErrMissing},
		{"\n", 2, 1, api.ErrMissing},
		{" ", 2, 1, api.ErrMissing},
		{"  \n\t", 3, 1, api.ErrMissing},
		{"\n\n\n", 4, 1, api.ErrMissing},
		{"track t", 1, 1, api.ErrShape},
		{"\n \n  track t\n\n", 3, 1, api.ErrShape},
		{"track t\n" + strings.Repeat("piece 1 0 1\n", 13), 1, 1, api.ErrLarge},
		{"\n track t\n" + strings.Repeat("piece 0 0 1\n", 13), 2, 1, api.ErrLarge},
		{"track t\n\npiece 1 101 1\n", 3, 1, api.ErrRange},
		{"track t\n\n  piece 0 0 1\n", 3, 1, api.ErrRange},
		{"\ntrack t\npiece 1 0 1\n\n\n\tpiece 0 0 1 leave\npiece 0 0 1", 6, 1, api.ErrRange},
		{"track t\n" + strings.Repeat("piece 1 0 1\n", 11) + "piece 1 -101 1", 13, 1, api.ErrRange},
		{strings.Repeat("\n", api.MaxText), api.MaxText + 1, 1, api.ErrMissing},
		{strings.Repeat("x", api.MaxText), 1, 1, api.ErrSyntax},
		{strings.Repeat("x", api.MaxText+1), 0, 0, api.ErrLarge},
		{exampleText + strings.Repeat("\n", api.MaxText+1-len(exampleText)), 0, 0, api.ErrLarge},
		{"track t\n" + strings.Repeat("piece 1 0 1\n", 4000), 1, 1, api.ErrLarge},
	})
}

// P5.13: Parse undoes Print of right tracks.
func TestParseUndoesPrint(t *testing.T) {
	eachRide(func(r *rand.Rand, m most, track api.BrakeTrack, b api.BrakeSystem) {
		s, e := brake.Print(track)
		if e != api.OK {
			t.Fatal(track, e)
		}
		if again, m, e := brake.Parse(s); !same(again, track) || m != (api.TextMark{}) || e != api.OK {
			t.Fatal(track, s, again, m, e)
		}
	})
}

// R1, R2: texts that are nearly right are parsed, or told a mark in the text or just behind it.
func TestParseSpoiledTexts(t *testing.T) {
	r := rand.New(rand.NewSource(3))
	words := []string{"track", "piece", "leave", "a", "0", "-0", "1000", "-5", "101", "\n", " ", "\t", "\r", "\xff"}
	found := map[api.Errno]int{}
	for range 20000 {
		s := exampleText
		for range between(r, 1, 3) {
			from := r.Intn(len(s) + 1)
			to := min(len(s), from+r.Intn(6))
			s = s[:from] + words[r.Intn(len(words))] + s[to:]
		}
		x, m, e := brake.Parse(s)
		found[e]++
		if e == api.OK {
			if _, wrong := brake.CheckTrack(x); wrong != api.OK || m != (api.TextMark{}) {
				t.Fatal(strconv.Quote(s), x, m)
			}
			continue
		}
		lines := strings.Split(s, "\n")
		if x.Name != "" || len(x.Pieces) > 0 || m.Line < 1 || m.Line > len(lines) || m.Column < 1 || m.Column > len(lines[m.Line-1])+1 {
			t.Fatal(strconv.Quote(s), x, m, e)
		}
	}
	for _, e := range []api.Errno{api.OK, api.ErrSyntax, api.ErrMissing, api.ErrName, api.ErrRange} {
		if found[e] == 0 {
			t.Error("not tried", e)
		}
	}
}

// P5.7
func TestFormatRun(t *testing.T) {
	for _, c := range []struct {
		x    api.BrakeRun
		want string
	}{
		{api.BrakeRun{}, "0 0"},
		{api.BrakeRun{Post: 2, Square: 8000}, "2 8000"},
		{api.BrakeRun{Post: 12, Square: 20000000000}, "12 20000000000"},
		{api.BrakeRun{Post: -1, Square: -20}, "-1 -20"},
		{api.BrakeRun{Post: math.MaxInt, Square: math.MinInt}, "9223372036854775807 -9223372036854775808"},
	} {
		if s := brake.FormatRun(c.x); s != c.want {
			t.Error(c, s)
		}
	}
}

// P5.7
func TestParseRun(t *testing.T) {
	for _, c := range []struct {
		text string
		want api.BrakeRun
	}{
		{"0 0", api.BrakeRun{}},
		{"2 8000", api.BrakeRun{Post: 2, Square: 8000}},
		// whether a state is right is not asked
		{"99999999999 99999999999", api.BrakeRun{Post: 99999999999, Square: 99999999999}},
	} {
		if x, e := brake.ParseRun(c.text); x != c.want || e != api.OK {
			t.Error(c, x, e)
		}
	}
	for _, text := range []string{
		"", " ", "2", "2 ", " 8000", "2  8000", " 2 8000", "2 8000 ", "2 8000 1", "2\t8000", "2,8000", "2 8000\n", "\n2 8000",
		"-1 0", "1 -1", "-0 0", "0 -0", "+1 0", "0 +1", "01 0", "0 01", "00 0", "0 00", "x 0", "0 x", "1.0 0", "0 1e3",
		"123456789012 0", "0 123456789012", "0 000000000001", "٣ 0", "0 1_0", "0x1 0", "0 \x00", strings.Repeat("1", 70000),
	} {
		x, e := brake.ParseRun(text)
		refused(t, text, x, e, api.ErrSyntax)
	}
}

// P5.13: ParseRun undoes FormatRun of right states.
func TestParseUndoesFormat(t *testing.T) {
	r := rand.New(rand.NewSource(1))
	for range 5000 {
		x := api.BrakeRun{Post: oneOf(r, 0, 12), Square: oneOf(r, 0, 20000000000) >> r.Intn(34)}
		if again, e := brake.ParseRun(brake.FormatRun(x)); again != x || e != api.OK {
			t.Fatal(x, again, e)
		}
	}
}
