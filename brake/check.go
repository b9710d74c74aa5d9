package brake

import "guideway/api"

// CheckTrack returns the first error of a track, and the piece that has it.
func CheckTrack(t api.BrakeTrack) (int, api.Errno) {
	switch {
	case !isName(t.Name):
		return 0, api.ErrName
	case len(t.Pieces) == 0:
		return 0, api.ErrShape
	case len(t.Pieces) > api.MaxBrakePieces:
		return 0, api.ErrLarge
	}
	for i, piece := range t.Pieces {
		if !within(piece.Length, 1, api.MaxBrakeLength) ||
			!within(piece.Gradient, -api.MaxGradient, api.MaxGradient) ||
			!isSquare(piece.Limit) {
			return i, api.ErrRange
		}
	}
	return 0, api.OK
}

// CheckSystem returns the first error of a system.
func CheckSystem(b api.BrakeSystem) api.Errno {
	switch {
	case !within(b.Brake, 1, api.MaxBrakeForce),
		!within(b.Drag, 0, api.MaxBrakeDrag),
		!within(b.Drive, 0, api.MaxBrakeDrive):
		return api.ErrRange
	case b.Drag > b.Brake:
		return api.ErrOrder
	}
	return api.OK
}

// The errors of what is told of a track; no error of the track itself is asked for.

func errorOfPost(t api.BrakeTrack, post int) api.Errno {
	if !within(post, 0, len(t.Pieces)) {
		return api.ErrMissing
	}
	return api.OK
}

func errorOfState(t api.BrakeTrack, x api.BrakeRun) api.Errno {
	if err := errorOfPost(t, x.Post); err != api.OK {
		return err
	}
	return errorOfSquare(x.Square)
}

func errorOfStop(t api.BrakeTrack, stop int) api.Errno {
	switch {
	case !within(stop, 0, len(t.Pieces)-1):
		return api.ErrMissing
	case !t.Pieces[stop].Leave:
		return api.ErrKind
	}
	return api.OK
}

func errorOfOrder(x api.BrakeRun, stop int) api.Errno {
	if x.Post > stop {
		return api.ErrOrder
	}
	return api.OK
}

func errorOfSquares(t api.BrakeTrack, squares []int) api.Errno {
	if len(squares) != len(t.Pieces)+1 {
		return api.ErrShape
	}
	return errorOfSquare(squares...)
}

func errorOfSquare(squares ...int) api.Errno {
	for _, square := range squares {
		if !isSquare(square) {
			return api.ErrRange
		}
	}
	return api.OK
}

func isSquare(number int) bool {
	return within(number, 0, api.MaxSquare)
}
