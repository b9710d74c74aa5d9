package locate

import "guideway/api"

// plan is what a short track that is looked for has to keep.
type plan struct {
	length, window, distance int
}

// FirstTrack returns the first list of vanes whose windows differ at so many positions at least.
func FirstTrack(length, window, distance int) ([]int, api.Errno) {
	switch {
	case !within(length, 1, api.MaxLocateMade),
		!within(window, 1, api.MaxLocateWindow),
		!within(distance, 0, api.MaxLocateWindow):
		return nil, api.ErrRange
	case length < window:
		return nil, api.ErrShape
	}
	made := plan{length, window, distance}.completed(nil)
	if made == nil {
		return nil, api.ErrNone
	}
	return made, api.OK
}

// completed returns the first track that begins with some vanes, or nil if there is none.
func (p plan) completed(vanes []int) []int {
	if !p.keeps(vanes) {
		return nil
	}
	if len(vanes) == p.length {
		return vanes
	}
	for vane := range 2 {
		if made := p.completed(append(vanes, vane)); made != nil {
			return made
		}
	}
	return nil
}

// keeps tells whether the last window, if there is one, is so far from all windows ahead of it.
func (p plan) keeps(vanes []int) bool {
	last := len(vanes) - p.window
	for i := range last {
		if differ(vanes[last:], vanes[i:]) < p.distance {
			return false
		}
	}
	return true
}
