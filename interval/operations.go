package interval

import (
	"strconv"

	"garboard/api"
	"garboard/rational"
)

// mostParts is the greatest denominator to which intervals are rounded.
const mostParts = 1_000_000_000

// Add returns the sums.
func Add(a, b api.Interval) (api.Interval, api.Errno) {
	if !Valid(a) || !Valid(b) {
		return api.Interval{}, api.ErrArg
	}
	least, _ := rational.Add(a.Lo, b.Lo)
	greatest, _ := rational.Add(a.Hi, b.Hi)
	return api.Interval{Lo: least, Hi: greatest}, api.OK
}

// Sub returns the differences.
func Sub(a, b api.Interval) (api.Interval, api.Errno) {
	if !Valid(a) || !Valid(b) {
		return api.Interval{}, api.ErrArg
	}
	least, _ := rational.Sub(a.Lo, b.Hi)
	greatest, _ := rational.Sub(a.Hi, b.Lo)
	return api.Interval{Lo: least, Hi: greatest}, api.OK
}

// Mul returns the products.
func Mul(a, b api.Interval) (api.Interval, api.Errno) {
	if !Valid(a) || !Valid(b) {
		return api.Interval{}, api.ErrArg
	}
	return combine(a, b, rational.Mul), api.OK
}

// Div returns the quotients.
func Div(a, b api.Interval) (api.Interval, api.Errno) {
	if !Valid(a) || !Valid(b) {
		return api.Interval{}, api.ErrArg
	}
	if has(b, "0") {
		return api.Interval{}, api.ErrZero
	}
	return combine(a, b, rational.Div), api.OK
}

// combine returns the results of an operation whose least and greatest ones are those of ends.
func combine(a, b api.Interval, operation func(x, y api.Rat) (api.Rat, api.Errno)) api.Interval {
	var results [4]api.Rat
	for i, x := range [2]api.Rat{a.Lo, a.Hi} {
		results[2*i], _ = operation(x, b.Lo)
		results[2*i+1], _ = operation(x, b.Hi)
	}
	return extremes(results[:]...)
}

// Square returns the squares.
func Square(a api.Interval) (api.Interval, api.Errno) {
	if !Valid(a) {
		return api.Interval{}, api.ErrArg
	}
	first, _ := rational.Mul(a.Lo, a.Lo)
	second, _ := rational.Mul(a.Hi, a.Hi)
	if has(a, "0") {
		return extremes("0", first, second), api.OK
	}
	return extremes(first, second), api.OK
}

// Round returns an interval rounded outward to a denominator.
func Round(a api.Interval, n int) (api.Interval, api.Errno) {
	if !Valid(a) {
		return api.Interval{}, api.ErrArg
	}
	if n < 1 || n > mostParts {
		return api.Interval{}, api.ErrRange
	}
	parts := strconv.Itoa(n)
	return api.Interval{Lo: roundDown(a.Lo, parts), Hi: negative(roundDown(negative(a.Hi), parts))}, api.OK
}

func roundDown(x api.Rat, parts string) api.Rat {
	times, _ := rational.Mul(x, api.Rat(parts))
	whole, _ := rational.Floor(times)
	rounded, _ := rational.Make(whole, parts)
	return rounded
}

func negative(x api.Rat) api.Rat {
	opposite, _ := rational.Sub("0", x)
	return opposite
}
