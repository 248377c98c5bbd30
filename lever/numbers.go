package lever

import (
	"slices"

	"garboard/api"
	"garboard/interval"
)

// The following functions take numbers as intervals, because this layer computes with them.

func areNumbers(l []api.Rat) bool {
	return !slices.ContainsFunc(l, func(x api.Rat) bool {
		_, e := interval.Exact(x)
		return e != api.OK
	})
}

// isLess needs valid numbers, as the following functions do.
func isLess(x, y api.Rat) bool { return !interval.Valid(api.Interval{Lo: y, Hi: x}) }

func middleOf(x, y api.Rat) api.Rat {
	both := sure(interval.Add(exact(x), exact(y)))
	return over(both.Lo, "2")
}

func less(x, y api.Interval) api.Interval { return sure(interval.Sub(x, y)) }

func minus(x, y api.Rat) api.Rat { return less(exact(x), exact(y)).Lo }
func over(x, y api.Rat) api.Rat  { return sure(interval.Div(exact(x), exact(y))).Lo }

func exact(x api.Rat) api.Interval { return sure(interval.Exact(x)) }

// sure returns a result that comes without an error, because what it is computed from is valid, and a divisor is not 0.
func sure[T any](result T, _ api.Errno) T { return result }
