package polynomial

import (
	"strconv"

	"garboard/api"
	"garboard/interval"
	"garboard/rational"
)

// sure returns a result that comes without an error: that of valid numbers and intervals, and of a divisor other than 0.
func sure[T any](result T, _ api.Errno) T { return result }

func plus(x, y api.Rat) api.Rat  { return sure(rational.Add(x, y)) }
func minus(x, y api.Rat) api.Rat { return sure(rational.Sub(x, y)) }
func times(x, y api.Rat) api.Rat { return sure(rational.Mul(x, y)) }
func over(x, y api.Rat) api.Rat  { return sure(rational.Div(x, y)) }
func whole(n int) api.Rat        { return api.Rat(strconv.Itoa(n)) }

func denominator(x api.Rat) api.Rat {
	_, den, _ := rational.Parts(x)
	return api.Rat(den)
}

func exactly(x api.Rat) api.Interval          { return sure(interval.Exact(x)) }
func sum(a, b api.Interval) api.Interval      { return sure(interval.Add(a, b)) }
func multiply(a, b api.Interval) api.Interval { return sure(interval.Mul(a, b)) }
