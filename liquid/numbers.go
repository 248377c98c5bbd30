package liquid

import (
	"garboard/api"
	"garboard/interval"
)

// along returns the values of n . r for all points r of an enclosure. No coordinate of them depends on another one, so that all can be least, or greatest, at once.
func along(n api.Vector, x api.Spot) api.Interval {
	across := plus(scaled(x.Ahead, n.X), scaled(x.Side, n.Y))
	return plus(across, scaled(x.Up, n.Z))
}

// scaled returns the products of a factor and the numbers of an interval. Those of its ends change places if the factor is negative.
func scaled(x api.Interval, factor api.Rat) api.Interval {
	products := [...]api.Rat{times(x.Lo, factor), times(x.Hi, factor)}
	if isLess(products[1], products[0]) {
		products[0], products[1] = products[1], products[0]
	}
	return api.Interval{Lo: products[0], Hi: products[1]}
}

func isNumber(x api.Rat) bool {
	_, e := interval.Exact(x)
	return e == api.OK
}

// isLess needs valid numbers, as the functions below do: an interval with ends in the wrong order is not valid.
func isLess(x, y api.Rat) bool { return !interval.Valid(api.Interval{Lo: y, Hi: x}) }

// sure returns a result that comes without an error, because what it is computed from is valid, and a divisor is not 0.
func sure[T any](result T, _ api.Errno) T { return result }

func exact(x api.Rat) api.Interval        { return sure(interval.Exact(x)) }
func plus(x, y api.Interval) api.Interval { return sure(interval.Add(x, y)) }
func times(x, y api.Rat) api.Rat          { return sure(interval.Mul(exact(x), exact(y))).Lo }
func over(x, y api.Rat) api.Rat           { return sure(interval.Div(exact(x), exact(y))).Lo }
