package particulars

import (
	"slices"

	"garboard/api"
	"garboard/attitude"
	"garboard/rational"
)

// numbers collects those of particulars, and others that come with them.
func numbers(h api.Hydro, others ...api.Rat) []api.Rat {
	own := []api.Rat{h.Volume, h.Centre.X, h.Centre.Y, h.Centre.Z, h.Area, h.Ahead, h.Side, h.Along, h.Across, h.Mixed}
	return append(own, others...)
}

// check returns the error of some numbers. Their ranges are asked for by functions, because they can be told only of numbers that are valid.
func check(l []api.Rat, ranges ...func() bool) api.Errno {
	if slices.ContainsFunc(l, func(x api.Rat) bool { return !rational.Valid(x) }) {
		return api.ErrArg
	}
	for _, isInRange := range ranges {
		if !isInRange() {
			return api.ErrRange
		}
	}
	return api.OK
}

// heightAbove returns by how much the centre is higher than another point, in the coordinates of the water.
func heightAbove(g, centre api.Vector, a api.Attitude) api.Rat {
	way := api.Vector{X: minus(centre.X, g.X), Y: minus(centre.Y, g.Y), Z: minus(centre.Z, g.Z)}
	return sure(attitude.Turn(a, way)).Z
}

// sure returns a result that comes without an error: the functions below need what is valid, and a divisor other than 0.
func sure[T any](result T, _ api.Errno) T { return result }

func plus(x, y api.Rat) api.Rat  { return sure(rational.Add(x, y)) }
func minus(x, y api.Rat) api.Rat { return sure(rational.Sub(x, y)) }
func times(x, y api.Rat) api.Rat { return sure(rational.Mul(x, y)) }
func over(x, y api.Rat) api.Rat  { return sure(rational.Div(x, y)) }
func isPositive(x api.Rat) bool  { return sure(rational.Compare(x, "0")) > 0 }
