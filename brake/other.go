package brake

import (
	"slices"

	"guideway/api"
)

// Reversed returns a track in the opposite direction.
func Reversed(t api.BrakeTrack) (api.BrakeTrack, api.Errno) {
	if _, err := check(t); err != api.OK {
		return api.BrakeTrack{}, err
	}
	pieces := slices.Clone(t.Pieces)
	slices.Reverse(pieces)
	for i := range pieces {
		pieces[i].Gradient = -pieces[i].Gradient
	}
	return api.BrakeTrack{Name: t.Name, Pieces: pieces}, api.OK
}

// Joined returns a track with the pieces of another one behind it.
func Joined(a, b api.BrakeTrack) (api.BrakeTrack, api.Errno) {
	_, errorOfB := check(b)
	if _, err := check(a, errorOfB); err != api.OK {
		return api.BrakeTrack{}, err
	}
	pieces := slices.Concat(a.Pieces, b.Pieces)
	if len(pieces) > api.MaxBrakePieces {
		return api.BrakeTrack{}, api.ErrLarge
	}
	return api.BrakeTrack{Name: a.Name, Pieces: pieces}, api.OK
}
