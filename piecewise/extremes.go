package piecewise

import (
	"garboard/api"
	"garboard/sturm"
)

// Extremes returns the enclosures of the least and of the greatest value.
func Extremes(l []api.Piece, k int) (api.Interval, api.Interval, api.Errno) {
	none := api.Interval{}
	if e := Check(l); e != api.OK {
		return none, none, e
	}
	var least, greatest api.Interval
	for i, p := range l {
		low, high, e := sturm.Extremes(p.P, api.Interval{Lo: p.From, Hi: p.To}, k)
		if e != api.OK {
			return none, none, e
		}
		if i == 0 {
			least, greatest = low, high
		}
		least = api.Interval{Lo: lesser(least.Lo, low.Lo), Hi: lesser(least.Hi, low.Hi)}
		greatest = api.Interval{Lo: greater(greatest.Lo, high.Lo), Hi: greater(greatest.Hi, high.Hi)}
	}
	return least, greatest, api.OK
}

func lesser(x, y api.Rat) api.Rat {
	if order(y, x) < 0 {
		return y
	}
	return x
}

func greater(x, y api.Rat) api.Rat {
	if order(y, x) > 0 {
		return y
	}
	return x
}
