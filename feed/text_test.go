package feed_test

import (
	"math"
	"math/rand"
	"regexp"
	"strconv"
	"strings"
	"testing"

	"guideway/api"
	"guideway/feed"
)

// The forms of texts, and of names.
const (
	departureForm = `^[^ ]+ (0|-?[1-9][0-9]{0,8})$`
	nameForm      = `^[A-Za-z][-A-Za-z0-9]{0,11}$`
)

// P7.8: the text of any departure.
func TestFormatDeparture(t *testing.T) {
	for text, x := range map[string]api.FeedDeparture{
		"x 0":            {Train: "x"},
		"abc-1 1000":     {Train: "abc-1", At: 1000},
		"x -7":           {Train: "x", At: -7},
		" 0":             {},
		"a b\n 5":        {Train: "a b\n", At: 5},
		"\xff 999999999": {Train: "\xff", At: 999999999},
		strings.Repeat("ab", 50000) + " " + strconv.Itoa(math.MinInt): {Train: strings.Repeat("ab", 50000), At: math.MinInt},
		"x " + strconv.Itoa(math.MaxInt):                              {Train: "x", At: math.MaxInt},
	} {
		if s := feed.FormatDeparture(x); s != text {
			t.Error(x, s, text)
		}
	}
}

// P7.8
func TestParseDeparture(t *testing.T) {
	for text, want := range map[string]api.FeedDeparture{
		"x 0":                    {Train: "x"},
		"x 1":                    {Train: "x", At: 1},
		"x 10":                   {Train: "x", At: 10},
		"x -1":                   {Train: "x", At: -1},
		"Z-0-9-azAZ-- 999999999": {Train: "Z-0-9-azAZ--", At: 999999999},
		"a -999999999":           {Train: "a", At: -999999999},
	} {
		x, e := feed.ParseDeparture(text)
		is(t, x, e, want)
	}
	for _, text := range []string{
		"", " ", "  ", "x", "x ", " x", " 0", "  0", "x  0", " x 0", "x 0 ", "x 0 0", "x 0 y", "x y 0", "x\t0", "x\n0", "x 0\n", "x \n0", "x0", "0",
		"x 00", "x 01", "x -0", "x -00", "x -01", "x +1", "x --1", "x -", "x 1-", "x 1234567890", "x -1234567890", "x 1000000000", "x 0000000001",
		"x a", "x 1a", "x 0x1", "x 1_0", "x 1.0", "x 1,0", "x ١", "x :", "x /", "x 1:", "x 1/", "x 99999999999999999999999",
		"1 a", " a", "- -", "1 00", "a_ ", " ", "abcdefghijklm 00", // what has not the form is no wrong name
	} {
		x, e := feed.ParseDeparture(text)
		refused(t, strconv.Quote(text), x, e, api.ErrSyntax)
	}
	for _, name := range badNames() {
		if name == "" || strings.Contains(name, " ") {
			continue
		}
		x, e := feed.ParseDeparture(name + " 0")
		refused(t, strconv.Quote(name), x, e, api.ErrName)
	}
	x, e := feed.ParseDeparture(strings.Repeat("a", 100000) + " 0")
	refused(t, "a long name", x, e, api.ErrName)
	x, e = feed.ParseDeparture("a " + strings.Repeat("1", 100000))
	refused(t, "a long number", x, e, api.ErrSyntax)
	x, e = feed.ParseDeparture(strings.Repeat("a ", 100000))
	refused(t, "many words", x, e, api.ErrSyntax)
}

// P7.8: texts that are nearly right.
func TestSpoiltTexts(t *testing.T) {
	r := rand.New(rand.NewSource(1))
	parts := []string{"", " ", "0", "1", "-", "-1", "x", "\n", "?", "\xff", "00", "12345678", "abcdefgh"}
	form, name := regexp.MustCompile(departureForm), regexp.MustCompile(nameForm)
	found := map[api.Errno]int{}
	for range 30000 {
		text := one(r, "x 0", "abc-1 12", "t -3", "a 999999999")
		for range r.Intn(4) {
			from := r.Intn(len(text) + 1)
			to := min(len(text), from+r.Intn(3))
			text = text[:from] + one(r, parts...) + text[to:]
		}
		want := api.OK
		if !form.MatchString(text) {
			want = api.ErrSyntax
		} else if !name.MatchString(strings.Split(text, " ")[0]) {
			want = api.ErrName
		}
		found[want]++
		x, e := feed.ParseDeparture(text)
		if want != api.OK {
			refused(t, strconv.Quote(text), x, e, want)
		} else if e != api.OK || feed.FormatDeparture(x) != text {
			t.Error(strconv.Quote(text), x, e)
		}
	}
	if found[api.OK] < 1000 || found[api.ErrName] < 1000 || found[api.ErrSyntax] < 1000 {
		t.Error(found)
	}
}

// P7.14
func TestTextsOfDepartures(t *testing.T) {
	const first, further = "ABCXYZabcxyz", "ABCXYZabcxyz019-"
	r := rand.New(rand.NewSource(1))
	for range 3000 {
		name := first[r.Intn(len(first)):][:1]
		for range r.Intn(12) {
			name += further[r.Intn(len(further)):][:1]
		}
		for _, tick := range []int{r.Intn(20) - 10, r.Intn(1999999999) - 999999999, 999999999, -999999999} {
			d := api.FeedDeparture{Train: name, At: tick}
			x, e := feed.ParseDeparture(feed.FormatDeparture(d))
			is(t, x, e, d)
		}
		for _, tick := range outside(-999999999, 999999999) {
			x, e := feed.ParseDeparture(feed.FormatDeparture(api.FeedDeparture{Train: name, At: tick}))
			refused(t, "a large one", x, e, api.ErrSyntax)
		}
	}
}
