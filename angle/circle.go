package angle

import (
	"garboard/api"
	"garboard/interval"
	"garboard/rational"
)

// circle keeps the enclosure of pi with a number of terms, so that it is found once for many angles.
type circle struct {
	terms int
	pi    api.Interval
}

func newCircle(n int) circle {
	fifth, small := series("1/5", n), series("1/239", n)
	return circle{n, subtract(scale("16", fifth), scale("4", small))}
}

// arctangent returns the enclosure of the arctangent of a number from -1 to 1.
func (c circle) arctangent(x api.Rat) api.Interval {
	switch {
	case order(x, "-1/2") < 0:
		return scale("-1", c.arctangent(minus("0", x)))
	case order(x, "1/2") <= 0:
		return series(x, c.terms)
	}
	rest := over(minus("1", x), plus("1", x))
	return subtract(scale("1/4", c.pi), series(rest, c.terms))
}

// degrees returns the enclosure of the angle of a half tangent.
func (c circle) degrees(t api.Rat) api.Interval {
	return sure(interval.Div(scale("360", c.arctangent(t)), c.pi))
}

// Pi returns the enclosure of pi.
func Pi(n int) (api.Interval, api.Errno) {
	if !isNumberOfTerms(n) {
		return api.Interval{}, api.ErrRange
	}
	return newCircle(n).pi, api.OK
}

// Arctangent returns the enclosure of an arctangent.
func Arctangent(x api.Rat, n int) (api.Interval, api.Errno) {
	return enclose(x, n, circle.arctangent)
}

// Degrees returns the enclosure of an angle in degrees.
func Degrees(t api.Rat, n int) (api.Interval, api.Errno) {
	return enclose(t, n, circle.degrees)
}

func enclose(t api.Rat, n int, measure func(circle, api.Rat) api.Interval) (api.Interval, api.Errno) {
	if e := check(t); e != api.OK {
		return api.Interval{}, e
	}
	if !isNumberOfTerms(n) {
		return api.Interval{}, api.ErrRange
	}
	return measure(newCircle(n), t), api.OK
}

// Find returns the bracket of an angle.
func Find(d api.Rat, n, k int) (api.Interval, api.Errno) {
	if !rational.Valid(d) {
		return api.Interval{}, api.ErrArg
	}
	isAngle := interval.Has(api.Interval{Lo: "-90", Hi: "90"}, d)
	if !isAngle || !isNumberOfTerms(n) || k < 0 || k > api.MaxHalvings {
		return api.Interval{}, api.ErrRange
	}
	return halve(d, k, newCircle(n).degrees), api.OK
}

// halve halves the range of half tangents until it is not sure on which side of an angle the middle is, but at most k times.
func halve(d api.Rat, k int, degrees func(t api.Rat) api.Interval) api.Interval {
	found := api.Interval{Lo: "-1", Hi: "1"}
	for range k {
		middle := times(plus(found.Lo, found.Hi), "1/2")
		size := degrees(middle)
		switch {
		case order(size.Hi, d) <= 0:
			found.Lo = middle
		case order(size.Lo, d) > 0:
			found.Hi = middle
		default:
			return found
		}
	}
	return found
}

func isNumberOfTerms(n int) bool { return n >= 1 && n <= mostTerms }
