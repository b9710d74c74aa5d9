package lock_test

import (
	"math/rand"
	"testing"

	"guideway/api"
	"guideway/lock"
)

// rightTelegram is a telegram with the check that the chapter tells.
func rightTelegram(kind, a, b, counter int) api.LockTelegram {
	return api.LockTelegram{kind, a, b, counter, (1*(kind+1) + 2*(a+1) + 3*(b+1) + 4*(counter+1)) % 251}
}

// eachTelegram calls a function with right telegrams, all kinds and the ends of all numbers among them.
func eachTelegram(f func(r *rand.Rand, x api.LockTelegram)) {
	r := rand.New(rand.NewSource(1))
	for kind := range 7 {
		for _, a := range []int{0, 1, 125, 250} {
			for _, b := range []int{0, 1, 250} {
				for _, counter := range []int{0, 249, 250} {
					f(r, rightTelegram(kind, a, b, counter))
				}
			}
		}
		for range 20 {
			f(r, rightTelegram(kind, r.Intn(251), r.Intn(251), r.Intn(251)))
		}
	}
}

// P6.6
func TestTelegramOf(t *testing.T) {
	for _, c := range []struct {
		event   api.LockEvent
		counter int
		want    api.LockTelegram
	}{
		{api.LockEvent{Kind: api.LockRequest}, 5, api.LockTelegram{1, 0, 0, 5, 31}},
		{api.LockEvent{Kind: api.LockRequest, A: 1}, 5, api.LockTelegram{1, 1, 0, 5, 33}},
		{api.LockEvent{}, 0, api.LockTelegram{0, 0, 0, 0, 10}},
		{api.LockEvent{Kind: api.LockTake, A: 250, B: 250}, 250, api.LockTelegram{6, 250, 250, 250, 7}}, // 7 + 9 * 251
		{api.LockEvent{Kind: api.LockTurn, A: 119}, 1, api.LockTelegram{2, 119, 0, 1, 3 + 240 + 3 + 8 - 251}},
		{api.LockEvent{Kind: api.LockTurn, A: 119}, 0, api.LockTelegram{2, 119, 0, 0, 250}},
	} {
		x, e := lock.TelegramOf(c.event, c.counter)
		if e != api.OK || x != c.want {
			t.Error(c, x, e)
		}
	}
}

// P6.6
func TestTelegramsByDefinition(t *testing.T) {
	eachTelegram(func(r *rand.Rand, x api.LockTelegram) {
		event := api.LockEvent{Kind: x[0], A: x[1], B: x[2]}
		y, e := lock.TelegramOf(event, x[3])
		if e != api.OK || y != x {
			t.Error(x, y, e)
		}
		v, n, e := lock.EventOf(x)
		if e != api.OK || v != event || n != x[3] {
			t.Error(x, v, n, e)
		}
	})
}

// P6.6: all kinds that a telegram can have.
func TestKindsOfTelegrams(t *testing.T) {
	for kind := range 251 {
		v, n, e := lock.EventOf(rightTelegram(kind, 2, 0, 9))
		if kind < 7 {
			if e != api.OK || v != (api.LockEvent{Kind: kind, A: 2}) || n != 9 {
				t.Error(kind, v, n, e)
			}
			continue
		}
		refused(t, "EventOf", v, e, api.ErrKind)
		isZeroNumber(t, n)
	}
}

func isZeroNumber(t *testing.T, n int) {
	t.Helper()
	if n != 0 {
		t.Error(n)
	}
}

// P6.12: a telegram with one number changed is not right.
func TestOneNumberChanged(t *testing.T) {
	eachTelegram(func(r *rand.Rand, x api.LockTelegram) {
		for i := range x {
			for n := -2; n <= 253; n++ {
				y := x
				y[i] = n
				v, counter, e := lock.EventOf(y)
				switch {
				case y == x:
					continue
				case n < 0 || n > 250:
					refused(t, "EventOf", v, e, api.ErrRange)
				default:
					refused(t, "EventOf", v, e, api.ErrSum)
				}
				isZeroNumber(t, counter)
			}
		}
	})
}

// P6.6
func TestVote(t *testing.T) {
	x, y, z := rightTelegram(1, 0, 0, 5), rightTelegram(1, 1, 0, 5), rightTelegram(3, 0, 0, 5)
	wrong, unkind := api.LockTelegram{1, 1, 0, 5, 31}, rightTelegram(7, 0, 0, 5)
	for _, c := range []struct{ a, b, c, want api.LockTelegram }{
		{x, x, x, x}, {x, x, y, x}, {x, y, x, x}, {y, x, x, x}, {wrong, x, x, x}, {x, unkind, x, x}, {y, y, api.LockTelegram{}, y},
	} {
		v, e := lock.Vote([3]api.LockTelegram{c.a, c.b, c.c})
		if e != api.OK || v != c.want {
			t.Error(c, v, e)
		}
	}
	for _, l := range [][3]api.LockTelegram{
		{}, {x, y, z}, {wrong, wrong, wrong}, {wrong, wrong, x}, {wrong, x, wrong}, {x, wrong, wrong}, {unkind, unkind, x}, {x, y, wrong}, {x, {}, {}},
	} {
		v, e := lock.Vote(l)
		refused(t, "Vote", v, e, api.ErrNone)
	}
}

// P6.12: of three equal right telegrams any one may be spoilt.
func TestTwoOfThree(t *testing.T) {
	eachTelegram(func(r *rand.Rand, x api.LockTelegram) {
		for i := range 3 {
			for _, spoilt := range []api.LockTelegram{
				{}, rightTelegram(r.Intn(7), r.Intn(251), r.Intn(251), r.Intn(251)), {-1, x[1], x[2], x[3], x[4]},
				{x[0], x[1], x[2], x[3], r.Int()}, {x[4], x[3], x[2], x[1], x[0]}, {r.Intn(300) - 20, x[1], x[2], r.Intn(300), x[4]},
			} {
				l := [3]api.LockTelegram{x, x, x}
				l[i] = spoilt
				if v, e := lock.Vote(l); e != api.OK || v != x {
					t.Error(l, v, e)
				}
			}
		}
	})
}

// P6.6
func TestReceive(t *testing.T) {
	x := rightTelegram(1, 0, 0, 5)
	other := rightTelegram(1, 1, 0, 5)
	for _, c := range []struct {
		before  string
		three   [3]api.LockTelegram
		after   string
		want    api.Errno
		comment string
	}{
		{"0 5 1:0 -", [3]api.LockTelegram{x, other, x}, "0 6 1:0,1 -", api.OK, "request 0 0"},
		{"0 5 1:0 -", [3]api.LockTelegram{other, x, x}, "0 6 1:0,1 -", api.OK, "request 0 0"},
		{"0 5 1:0 -", [3]api.LockTelegram{other, x, other}, "", api.ErrState, "request 1 0"},
		{"0 6 1:0,1 -", [3]api.LockTelegram{x, x, x}, "", api.ErrOrder, "again"},
		{"0 250 1:0,1 -", [3]api.LockTelegram{0: rightTelegram(3, 0, 0, 250), 2: rightTelegram(3, 0, 0, 250)}, "0 0 2:0,1 -", api.OK, "enter 0"},
		{"0 249 1:0,1 -", [3]api.LockTelegram{0: rightTelegram(3, 0, 0, 249), 2: rightTelegram(3, 0, 0, 249)}, "0 250 2:0,1 -", api.OK, "enter 0"},
		{"0 0 1:0,1 -", [3]api.LockTelegram{0: rightTelegram(3, 0, 1, 0), 2: rightTelegram(3, 0, 1, 0)}, "", api.ErrForm, "enter 0, with a number more"},
		{"0 0 1:0,1 -", [3]api.LockTelegram{0: rightTelegram(3, 2, 0, 0), 2: rightTelegram(3, 2, 0, 0)}, "", api.ErrMissing, "enter 2"},
		{"0 0 1:0,1 -", [3]api.LockTelegram{x, {}, rightTelegram(3, 0, 0, 0)}, "", api.ErrNone, "none counts"},
	} {
		y, e := lock.Receive(example(), stateOf(t, c.before), c.three)
		if c.want != api.OK {
			refused(t, c.comment, y, e, c.want)
		} else if e != api.OK || lock.FormatState(y) != c.after {
			t.Error(c, y, e)
		}
	}
}

// P6.6: what is received is what is applied, the counter aside, which goes round.
func TestReceivedEvents(t *testing.T) {
	eachPlant(func(r *rand.Rand, p api.LockPlant) {
		x := begin(p)
		x.Counter = 200
		events := rightEvents(p)
		for range 100 {
			v := events[r.Intn(len(events))]
			want, err := behind(p, x, v)
			one := rightTelegram(v.Kind, v.A, v.B, x.Counter)
			l := [3]api.LockTelegram{one, one, one}
			l[r.Intn(3)][r.Intn(5)] = r.Intn(251)
			y, e := lock.Receive(p, x, l)
			if err != api.OK {
				refused(t, "Receive", y, e, err)
				continue
			}
			want.Counter = (x.Counter + 1) % 251
			if e != api.OK || !same(y, want) {
				t.Error(l, y, e, want)
			}
			x = want
		}
	})
}
