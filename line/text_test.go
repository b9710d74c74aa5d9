package line_test

import (
	"math/rand"
	"strconv"
	"strings"
	"testing"

	"guideway/api"
	"guideway/line"
)

const shortText = "line short\njoint 0 0 0 0\nbeam 10000 0\njoint 0 100 0 0\nbeam 10000 100\njoint 200 100 0 0\n"

const bendingText = `line short
joint 0 0 0 0
beam 10000 0
joint 0 100 0 0
beam 10000 100
joint 200 100 0 0
beam 1000 -300
joint 400 0 0 0
beam 30000 300
joint -300 -50 -4 7
switch bend 1 50
switch by 2 -20000 20000
`

// P1.6
func TestPrint(t *testing.T) {
	if s, e := line.Print(short()); s != shortText || e != api.OK {
		t.Error(s, e)
	}
	if s, e := line.Print(bending()); s != bendingText || e != api.OK {
		t.Error(s, e)
	}
}

// P1.6
func TestParse(t *testing.T) {
	for _, x := range []struct {
		text string
		want api.LineLine
	}{
		{shortText, short()},
		{bendingText, bending()},
		{strings.TrimSuffix(bendingText, "\n"), bending()},
		{strings.ReplaceAll(bendingText, "\n", "\n\n \t\n"), bending()},
		{"\n\t\n" + strings.ReplaceAll(bendingText, " ", "\t  ") + "\n\n", bending()},
		{strings.ReplaceAll(" "+bendingText, "\n", " \t\n\t"), bending()},
	} {
		if l, m, e := line.Parse(x.text); !alike(l, x.want) || m != (api.TextMark{}) || e != api.OK {
			t.Errorf("%q: %v %v %v", x.text, l, m, e)
		}
	}
}

type wrongTextCase struct {
	text         string
	line, column int
	want         api.Errno
}

func checkTexts(t *testing.T, cases []wrongTextCase) {
	t.Helper()
	for _, x := range cases {
		l, m, e := line.Parse(x.text)
		if !alike(l, api.LineLine{}) || m != (api.TextMark{Line: x.line, Column: x.column}) || e != x.want {
			t.Errorf("%q: %v %v %v, not %v", x.text, l, m, e, x)
		}
	}
}

const begun = "line a\njoint 0 0 0 0\n" // two lines of text

const whole = "line a\njoint 0 0 0 0\nbeam 1000 0\njoint 0 0 0 0\nbeam 1000 0\njoint 0 0 0 0\n" // six lines of text

// P1.6, 1.: the first word.
func TestParseFirstWords(t *testing.T) {
	checkTexts(t, []wrongTextCase{
		{"joint 0 0 0 0", 1, 1, api.ErrSyntax},
		{"beam", 1, 1, api.ErrSyntax},
		{"  lines a", 1, 3, api.ErrSyntax},
		{"\n\n\tLine a", 3, 2, api.ErrSyntax},
		{"line\r a", 1, 1, api.ErrSyntax},
		{"\vline a", 1, 1, api.ErrSyntax},
		{"line a\nline a", 2, 1, api.ErrSyntax},
		{begun + " track 1", 3, 2, api.ErrSyntax},
		{begun + "\x00", 3, 1, api.ErrSyntax},
		{begun + "\r\n", 3, 1, api.ErrSyntax},
		{begun + "joint", 3, 1, api.ErrOrder},
		{begun + "switch s 1 1\n joint 0 0 0 0", 4, 2, api.ErrOrder},
		{"line a\nbeam 1000 0", 2, 1, api.ErrOrder},
		{begun + "beam 1000 0\n\n beam", 5, 2, api.ErrOrder},
		{begun + "switch s 1 1\nbeam 1000 0", 4, 1, api.ErrOrder},
		{"line a\nswitch s 1 1", 2, 1, api.ErrOrder},
		{begun + "beam 1000 0\nswitch s 1 1", 4, 1, api.ErrOrder},
		{"line a\nswitch\nline", 2, 1, api.ErrOrder},
	})
}

// P1.6, 2. and 3.: further words, and one more.
func TestParseFurtherWords(t *testing.T) {
	checkTexts(t, []wrongTextCase{
		{"line", 1, 5, api.ErrMissing},
		{" line \t \njoint", 1, 6, api.ErrMissing},
		{"line 1", 1, 6, api.ErrName},
		{"line abcdefghijklm", 1, 6, api.ErrName},
		{"line a b", 1, 8, api.ErrSyntax},
		{"line a 1 2", 1, 8, api.ErrSyntax},
		{"line 1 b", 1, 6, api.ErrName},
		{"line a\njoint", 2, 6, api.ErrMissing},
		{"line a\n joint 1 2  3 \n", 2, 14, api.ErrMissing},
		{"line a\njoint 1 2 3 4 5", 2, 15, api.ErrSyntax},
		{"line a\njoint x", 2, 7, api.ErrSyntax},
		{"line a\njoint 1 2 3 x y", 2, 13, api.ErrSyntax},
		{begun + "beam", 3, 5, api.ErrMissing},
		{begun + "beam 1000", 3, 10, api.ErrMissing},
		{begun + "beam 1000 0 0", 3, 13, api.ErrSyntax},
		{begun + "beam -1000 0", 3, 6, api.ErrSyntax},
		{begun + "beam 1000 +1", 3, 11, api.ErrSyntax},
		{begun + "switch", 3, 7, api.ErrMissing},
		{begun + "switch s", 3, 9, api.ErrMissing},
		{begun + "switch 1 1 1", 3, 8, api.ErrName},
		{begun + "switch s-1_ x", 3, 8, api.ErrName},
		{begun + "switch s 1", 3, 11, api.ErrMissing},
		{begun + "switch s -1 1", 3, 10, api.ErrSyntax},
		{begun + "switch s x", 3, 10, api.ErrSyntax},
		{begun + "switch s 1 2 -3 x y", 3, 17, api.ErrSyntax},
		{begun + "switch s 1 2 -0", 3, 14, api.ErrSyntax},
		{begun + "switch s 1 2 3\n switch s", 4, 10, api.ErrMissing},
	})
}

// P1.6, R9: what is a number.
func TestParseNumbers(t *testing.T) {
	for _, no := range []string{"-", "--1", "-0", "00", "01", "-01", "+1", "1234567", "-1234567", "0000000", "1a", "a", "1.0", "1-", "٣", "0x1", "1_0", "\x00"} {
		checkTexts(t, []wrongTextCase{
			{"line a\njoint " + no + " 0 0 0", 2, 7, api.ErrSyntax},
			{"line a\njoint 0 0 0 " + no, 2, 13, api.ErrSyntax},
			{begun + "beam " + no + " 0", 3, 6, api.ErrSyntax},
			{begun + "beam 1000 " + no, 3, 11, api.ErrSyntax},
			{begun + "switch s " + no + " 0", 3, 10, api.ErrSyntax},
			{begun + "switch s 1 " + no, 3, 12, api.ErrSyntax},
		})
	}
	// Six digits are a number, but too great a one.
	checkTexts(t, []wrongTextCase{
		{strings.Replace(whole, "joint 0", "joint 123456", 1), 2, 1, api.ErrRange},
		{strings.Replace(whole, "joint 0", "joint -999999", 1), 2, 1, api.ErrRange},
		{strings.Replace(whole, "beam 1000", "beam 999999", 1), 3, 1, api.ErrRange},
		{strings.Replace(whole, "beam 1000", "beam 0", 1), 3, 1, api.ErrRange},
		{whole + "switch s 999999 1", 7, 1, api.ErrMissing},
	})
}

// P1.6: what is wrong behind all lines.
func TestParseTheWhole(t *testing.T) {
	checkTexts(t, []wrongTextCase{
		{"", 1, 1, api.ErrMissing},
		{"\n", 2, 1, api.ErrMissing},
		{"  \n\t", 3, 1, api.ErrMissing},
		{"line a", 2, 1, api.ErrMissing},
		{"line a\n", 2, 1, api.ErrMissing},
		{"line a\n\n\n", 4, 1, api.ErrMissing},
		{begun + "beam 1000 0", 4, 1, api.ErrMissing},
		{begun + "beam 1000 0\n \n", 5, 1, api.ErrMissing},
		{begun, 1, 1, api.ErrShape},
		{"\n \n " + begun, 3, 1, api.ErrShape},
		{"\n" + textOf(41), 2, 1, api.ErrLarge},
		{whole[:len(whole)-1] + " \n\nswitch a 1 0\nswitch a 1 0\n", 9, 1, api.ErrExists},
		{whole + "\n switch a 1 0\n switch b 1 0\n", 9, 1, api.ErrClash},
		{whole + "switch a 1 20001\n", 7, 1, api.ErrRange},
		{whole + "switch a 2 0\n", 7, 1, api.ErrMissing},
		{whole + strings.Repeat("switch a 1 0\n", 5), 1, 1, api.ErrLarge},
		{strings.Replace(whole, "beam 1000 0\njoint 0 0 0 0\nbeam", "\nbeam 1000 0\n\n joint 0 0 1 0\nbeam", 1), 6, 1, api.ErrOrder},
		{strings.Replace(whole, "0\nbeam 1000 0\njoint 0 0 0 0\n", "0\n beam 999 0\njoint 0 0 1 0\n", 1), 4, 1, api.ErrOrder},
		{strings.ReplaceAll(whole, "beam 1000 0", "\tbeam 1000 301"), 3, 1, api.ErrRange},
	})
}

// textOf is the text of a line of so many beams.
func textOf(beams int) string {
	return begun + strings.Repeat("beam 1000 0\njoint 0 0 0 0\n", beams)
}

// P1.6: the length of a text, ahead of all else.
func TestParseLongTexts(t *testing.T) {
	long := shortText + strings.Repeat("\n", api.MaxText-len(shortText))
	if l, m, e := line.Parse(long); !alike(l, short()) || m != (api.TextMark{}) || e != api.OK {
		t.Error(l, m, e)
	}
	checkTexts(t, []wrongTextCase{
		{long + "\n", 0, 0, api.ErrLarge},
		{strings.Repeat("x", api.MaxText+1), 0, 0, api.ErrLarge},
		{strings.Repeat("x", api.MaxText), 1, 1, api.ErrSyntax},
		{strings.Repeat("\n", api.MaxText), api.MaxText + 1, 1, api.ErrMissing},
		{textOf(2000), 1, 1, api.ErrLarge},
		{whole + "switch s 1" + strings.Repeat(" 0", 20000), 7, 1, api.ErrMissing},
	})
}

// P1.13: Parse undoes Print of right lines.
func TestParseUndoesPrint(t *testing.T) {
	eachLine(t, 20000, func(r *rand.Rand, l api.LineLine) {
		s, e := line.Print(l)
		if e != api.OK {
			t.Fatal(l, e)
		}
		if again, m, e := line.Parse(s); !alike(again, l) || m != (api.TextMark{}) || e != api.OK {
			t.Error(l, s, again, m, e)
		}
	})
}

// R1, R2: texts that are nearly right are parsed, or told a mark in the text or just behind it.
func TestParseSpoiledTexts(t *testing.T) {
	r := rand.New(rand.NewSource(3))
	words := []string{"line", "joint", "beam", "switch", "a", "0", "-0", "1000", "-5", "20001", "\n", " ", "\t", "\r", "\xff"}
	found := map[api.Errno]int{}
	for range 20000 {
		s := bendingText
		for range between(r, 1, 3) {
			from := r.Intn(len(s) + 1)
			to := min(len(s), from+r.Intn(6))
			s = s[:from] + words[r.Intn(len(words))] + s[to:]
		}
		l, m, e := line.Parse(s)
		found[e]++
		if e == api.OK {
			if _, wrong := line.CheckLine(l); wrong != api.OK || m != (api.TextMark{}) {
				t.Fatal(strconv.Quote(s), l, m)
			}
			continue
		}
		lines := strings.Split(s, "\n")
		if !alike(l, api.LineLine{}) || m.Line < 1 || m.Line > len(lines)+1 || m.Column < 1 {
			t.Fatal(strconv.Quote(s), l, m, e)
		}
		if m.Line <= len(lines) && m.Column > len(lines[m.Line-1])+1 {
			t.Fatal(strconv.Quote(s), l, m, e)
		}
	}
	if len(found) < 7 {
		t.Error("few errors are tried", found)
	}
}
