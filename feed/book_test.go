package feed_test

import (
	"math/rand"
	"testing"

	"guideway/api"
	"guideway/feed"
)

// P7.6: the chapter's example 4.
func TestBookOfTheExample(t *testing.T) {
	n := example(0)
	b, e := feed.BookOf(n, at(n, 0), api.Range{Hi: 1})
	is(t, b, e, api.FeedBook{Fed: 2200000000, Used: 2000000000, Braked: 500000000, Lost: 200000000, Back: 500000000})
	n.Stations[1].Takes = false
	b, e = feed.BookOf(n, at(n, 0), api.Range{Hi: 1})
	is(t, b, e, api.FeedBook{Fed: 2200000000, Used: 2000000000, Braked: 500000000, Lost: 200000000, Burned: 500000000})
	b, e = feed.BookOf(n, at(n, 0), api.Range{Lo: 2, Hi: 1012})
	is(t, b, e, api.FeedBook{})
	b, e = feed.BookOf(n, at(n, 1000), api.Range{Hi: 1012})
	is(t, b, e, api.FeedBook{Fed: 2200000000, Used: 2000000000, Braked: 500000000, Lost: 200000000, Burned: 500000000})
	b, e = feed.BookOf(n, nil, api.Range{Hi: 1012})
	is(t, b, e, api.FeedBook{})
}

// P7.6: energy that is fed back is used in its section at once; of what is left there each end has its part.
func TestBookOfPowersBack(t *testing.T) {
	n := single(0, train("x", 0, 0, -10), train("y", 0, 0, 4), train("z", 0, 0, 7))
	n.Stations = append(n.Stations, api.FeedStation{Name: "b", Takes: true})
	n.Sections[0] = api.FeedSection{Left: 0, Right: 1, Share: 250, Loss: 100}
	for _, c := range []struct {
		l    []api.FeedDeparture
		want api.FeedBook
	}{
		{at(n, 5), api.FeedBook{Braked: 10000000, Lost: 1000000, Back: 6750000, Burned: 2250000}},
		{at(n, 5, 5), api.FeedBook{Used: 4000000, Braked: 10000000, Lost: 600000, Back: 4050000, Burned: 1350000}},
		{at(n, 5, 5, 5), api.FeedBook{Used: 11000000, Braked: 10000000, Lost: 100000, Fed: 1100000}},
		{at(n, 5, 6, 7), api.FeedBook{Used: 11000000, Braked: 10000000, Lost: 2100000, Fed: 12100000, Back: 6750000, Burned: 2250000}},
	} {
		b, e := feed.BookOf(n, c.l, api.Range{Lo: 5, Hi: 7})
		is(t, b, e, c.want)
	}
}

// bookOf are the books of some ticks, by their definition.
func bookOf(n api.FeedNet, l []api.FeedDeparture, ticks api.Range) api.FeedBook {
	var b api.FeedBook
	for tick := ticks.Lo; tick <= ticks.Hi; tick++ {
		for i := range l {
			for section, s := range n.Sections {
				if p := power(n, l[i:i+1], section, tick); p > 0 {
					b.Used += 1000000 * p
				} else {
					b.Braked -= 1000000 * p
				}
				if i > 0 {
					continue
				}
				net, all := power(n, l, section, tick), drawn(n, l, section, tick)
				if net < 0 {
					b.Lost -= 1000 * net * s.Loss
				} else {
					b.Lost += 1000 * net * s.Loss
				}
				if all > 0 {
					b.Fed += 1000 * all
					continue
				}
				for station, told := range n.Stations {
					if told.Takes {
						b.Back -= all * feeds(s, station)
					} else {
						b.Burned -= all * feeds(s, station)
					}
				}
			}
		}
	}
	return b
}

// P7.6: by the definitions.
func TestBookOf(t *testing.T) {
	kinds := [6]int{}
	eachNet(func(r *rand.Rand, n api.FeedNet, l []api.FeedDeparture) {
		last := ticks(n, l)
		for range 5 {
			of := api.Range{Lo: r.Intn(last)}
			of.Hi = of.Lo + r.Intn(last)
			b, e := feed.BookOf(n, l, of)
			is(t, b, e, bookOf(n, l, of))
			for i, x := range []int{b.Fed, b.Used, b.Braked, b.Lost, b.Back, b.Burned} {
				if x > 0 {
					kinds[i]++
				}
			}
		}
	})
	for _, count := range kinds {
		if count < 100 {
			t.Error(kinds)
		}
	}
}

// P7.6: the books of as much of everything as there may be.
func TestLargestBook(t *testing.T) {
	n := largest()
	l := at(n, 0, 0, 0, 0, 0, 0)
	b, e := feed.BookOf(n, l, api.Range{Hi: 1012})
	is(t, b, e, bookOf(n, l, api.Range{Hi: 12}))
	for i := range n.Trains {
		for k := range n.Trains[i].Steps {
			n.Trains[i].Steps[k] = api.FeedStep{Power: 20000}
		}
	}
	b, e = feed.BookOf(n, l, api.Range{Hi: 11})
	is(t, b, e, api.FeedBook{Fed: 2160000000000, Used: 1440000000000, Lost: 720000000000})
}

// P7.6: sums of books, up to the greatest ones.
func TestAdded(t *testing.T) {
	const most = 1000000000000000
	a := api.FeedBook{Fed: 1, Used: 20, Braked: 300, Lost: 4000, Back: 50000, Burned: 600000}
	b := api.FeedBook{Fed: 70, Used: 800, Braked: 9000, Lost: 10000, Back: 200000, Burned: 3000000}
	x, e := feed.Added(a, b)
	is(t, x, e, api.FeedBook{Fed: 71, Used: 820, Braked: 9300, Lost: 14000, Back: 250000, Burned: 3600000})
	all := api.FeedBook{Fed: most, Used: most, Braked: most, Lost: most, Back: most, Burned: most}
	x, e = feed.Added(all, api.FeedBook{})
	is(t, x, e, all)
	x, e = feed.Added(api.FeedBook{}, all)
	is(t, x, e, all)
	x, e = feed.Added(api.FeedBook{Fed: most - 1, Burned: 1}, api.FeedBook{Fed: 1, Burned: most - 1})
	is(t, x, e, api.FeedBook{Fed: most, Burned: most})
	x, e = feed.Added(all, all)
	refused(t, "twice all", x, e, api.ErrLarge)
	if b.Fed != 70 || a.Fed != 1 {
		t.Error(a, b)
	}
}
