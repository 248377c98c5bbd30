package trim

import (
	"slices"

	"garboard/api"
	"garboard/attitude"
	"garboard/draft"
	"garboard/interval"
)

// body is a solid with the volume of it that is in the water, and a centre of gravity.
type body struct {
	solid  api.Solid
	volume api.Rat
	g      api.Vector
}

// check returns the errors ahead of an open solid. Numbers that are not valid, those that come with the trims among them, come ahead of attitudes that are not in range.
func (b body) check(heel api.Rat, trims []api.Rat, others ...api.Rat) api.Errno {
	if _, e := attitude.Extent(b.solid, api.Attitude{Heel: "0", Trim: "0"}); e != api.OK {
		return e
	}
	own := []api.Rat{heel, b.volume, b.g.X, b.g.Y, b.g.Z}
	if !areNumbers(own) || !areNumbers(trims) || !areNumbers(others) {
		return api.ErrArg
	}
	for _, trim := range trims {
		if e := attitude.Check(api.Attitude{Heel: heel, Trim: trim}); e != api.OK {
			return e
		}
	}
	return api.OK
}

// afloat returns what is at an attitude, by the bracket of the volume.
func (b body) afloat(a api.Attitude, k int) (end, api.Errno) {
	level, e := draft.Level(b.solid, a, b.volume, k)
	if e != api.OK {
		return end{}, e
	}
	if b.volume == "0" {
		return end{}, api.ErrRange
	}
	return b.at(a, level)
}

// at returns what is at an attitude, by a level.
func (b body) at(a api.Attitude, level api.Interval) (end, api.Errno) {
	centre, e := draft.Centre(b.solid, a, b.volume, level)
	if e != api.OK {
		return end{}, e
	}
	gravity := exact(sure(attitude.Turn(a, b.g)).X)
	return end{a.Trim, level, sure(interval.Sub(centre.Ahead, gravity))}, api.OK
}

// The following functions take numbers as intervals, because this layer computes with them.

func areNumbers(l []api.Rat) bool {
	return !slices.ContainsFunc(l, func(x api.Rat) bool {
		_, e := interval.Exact(x)
		return e != api.OK
	})
}

// isLess needs valid numbers.
func isLess(x, y api.Rat) bool { return !interval.Valid(api.Interval{Lo: y, Hi: x}) }

func middleOf(x, y api.Rat) api.Rat {
	both := sure(interval.Add(exact(x), exact(y)))
	return sure(interval.Div(both, exact("2"))).Lo
}

func exact(x api.Rat) api.Interval { return sure(interval.Exact(x)) }

// sure returns a result that comes without an error, because what it is computed from is valid.
func sure[T any](result T, _ api.Errno) T { return result }
