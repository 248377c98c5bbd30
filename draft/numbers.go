package draft

import (
	"garboard/api"
	"garboard/attitude"
	"garboard/float"
	"garboard/interval"
	"garboard/rational"
)

// extentOf returns the extent of a solid. Its errors are those ahead of an open solid, with some other numbers among those that are checked.
func extentOf(s api.Solid, a api.Attitude, numbers ...api.Rat) (api.Spot, api.Errno) {
	extent, e := attitude.Extent(s, a)
	if e == api.OK || e == api.ErrRange {
		for _, x := range numbers {
			if !rational.Valid(x) {
				return api.Spot{}, api.ErrArg
			}
		}
	}
	return extent, e
}

// start returns what is missing of a volume at the lower end of a level that is right for it.
func start(s api.Solid, a api.Attitude, volume api.Rat, level api.Interval) (api.Rat, api.Errno) {
	if _, e := extentOf(s, a, volume, level.Lo, level.Hi); e != api.OK {
		return "", e
	}
	low, e := float.Volume(s, a, level.Lo)
	if e != api.OK {
		return "", e
	}
	if !interval.Valid(level) || isLess(volume, low) || isLess(sure(float.Volume(s, a, level.Hi)), volume) {
		return "", api.ErrProof
	}
	return minus(volume, low), api.OK
}

// halved halves an interval k times. It asks of each middle whether it becomes the lower end.
func halved(whole api.Interval, k int, isLow func(api.Rat) bool) api.Interval {
	ends := [2]api.Rat{whole.Lo, whole.Hi}
	for range k {
		middle := over(plus(ends[0], ends[1]), "2")
		end := 1
		if isLow(middle) {
			end = 0
		}
		ends[end] = middle
	}
	return api.Interval{Lo: ends[0], Hi: ends[1]}
}

// moved adds to a moment that of a volume of which it is known between which numbers it lies.
func moved(moment, volume api.Rat, within api.Interval) api.Interval {
	return sure(interval.Add(exact(moment), sure(interval.Mul(exact(volume), within))))
}

// sure returns a result that comes without an error: the functions below need what is valid, and a divisor other than 0.
func sure[T any](result T, _ api.Errno) T { return result }

func exact(x api.Rat) api.Interval { return sure(interval.Exact(x)) }
func plus(x, y api.Rat) api.Rat    { return sure(rational.Add(x, y)) }
func minus(x, y api.Rat) api.Rat   { return sure(rational.Sub(x, y)) }
func over(x, y api.Rat) api.Rat    { return sure(rational.Div(x, y)) }
func isLess(x, y api.Rat) bool     { return sure(rational.Compare(x, y)) < 0 }
