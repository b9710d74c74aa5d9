package locate

import "guideway/api"

// window is the vanes of a window, with zeros behind them.
type window [api.MaxLocateWindow]int

// WindowAt returns the window at a vane.
func WindowAt(t api.LocateTrack, i int) ([]int, api.Errno) {
	c, err := checkNumbered(t, i, checkedTrack.windows)
	if err != api.OK {
		return nil, err
	}
	w := c.window(i)
	return w[:c.Window:c.Window], api.OK
}

// window returns the window at a vane; the first vane follows the last one (if the track is not round, no window that
// it has gets there).
func (c checkedTrack) window(i int) window {
	var w window
	ahead := copy(w[:c.Window], c.Vanes[i:])
	copy(w[ahead:c.Window], c.Vanes)
	return w
}

// Differ returns at how many positions two lists differ.
func Differ(a, b []int) (int, api.Errno) {
	switch {
	case len(a) > api.MaxLocateVanes:
		return 0, api.ErrLarge
	case len(b) != len(a):
		return 0, api.ErrShape
	}
	for i := range a {
		if !isSeen(a[i]) || !isSeen(b[i]) {
			return 0, api.ErrKind
		}
	}
	return differ(a, b), api.OK
}

// differ returns at how many positions of the first list the second one differs.
func differ(a, b []int) int {
	count := 0
	for i, x := range a {
		if x != b[i] && x != api.LocateUnread && b[i] != api.LocateUnread {
			count++
		}
	}
	return count
}

// isSeen tells whether a number may be seen.
func isSeen(number int) bool {
	return number == 0 || number == 1 || number == api.LocateUnread
}

// DistanceOf returns the distance of a track, and the first pair of windows that have it.
func DistanceOf(t api.LocateTrack) (int, [2]int, api.Errno) {
	c, err := check(t)
	if err != api.OK {
		return 0, [2]int{}, err
	}
	if c.windows() == 1 {
		return 0, [2]int{}, api.ErrNone
	}
	distance, pair := c.closest()
	return distance, pair, api.OK
}

// closest returns the distance of a track with some windows, and the first pair that has it.
func (c checkedTrack) closest() (int, [2]int) {
	distance, pair := c.Window+1, [2]int{}
	for i := range c.windows() {
		w := c.window(i)
		for k := i + 1; k < c.windows(); k++ {
			other := c.window(k)
			if apart := differ(w[:], other[:]); apart < distance {
				distance, pair = apart, [2]int{i, k}
			}
		}
	}
	return distance, pair
}

// Always returns whether each list with no more errors than a track allows is near one window alone.
func Always(t api.LocateTrack) (bool, api.Errno) {
	c, err := check(t)
	if err != api.OK {
		return false, err
	}
	return c.mostUnread() >= 0, api.OK
}

// MostUnread returns how many numbers may be unread, besides the errors, so that a list is near one window alone.
func MostUnread(t api.LocateTrack) (int, api.Errno) {
	c, err := check(t)
	if err != api.OK {
		return 0, err
	}
	most := c.mostUnread()
	if most < 0 {
		return 0, api.ErrNone
	}
	return most, api.OK
}

// mostUnread is below 0 if a list may be near two windows though all of it is read. A list is near two windows just if
// the errors against both, and what is unread, can cover all positions at which they differ.
func (c checkedTrack) mostUnread() int {
	if c.windows() == 1 {
		return c.Window
	}
	distance, _ := c.closest()
	return distance - 2*c.Errors - 1
}
