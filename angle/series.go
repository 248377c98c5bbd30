package angle

import (
	"iter"
	"strconv"

	"garboard/api"
	"garboard/interval"
)

// series returns the enclosure of the arctangent of a number from -1/2 to 1/2.
func series(x api.Rat, n int) api.Interval {
	before, sum := api.Rat("0"), api.Rat("0")
	for term := range terms(x, n+1) {
		before, sum = sum, plus(sum, term)
	}
	return sure(interval.Hull([]api.Interval{exactly(before), exactly(sum)}))
}

// terms yields the first terms of the series of the arctangent.
func terms(x api.Rat, count int) iter.Seq[api.Rat] {
	return func(yield func(api.Rat) bool) {
		power, step := x, minus("0", times(x, x))
		for i := range count {
			if !yield(over(power, api.Rat(strconv.Itoa(2*i+1)))) {
				return
			}
			power = times(power, step)
		}
	}
}
