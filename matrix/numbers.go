package matrix

import (
	"garboard/api"
	"garboard/rational"
)

// sure returns a result that comes without an error: that of valid numbers, and of a divisor other than 0.
func sure[T any](result T, _ api.Errno) T { return result }

func plus(x, y api.Rat) api.Rat  { return sure(rational.Add(x, y)) }
func minus(x, y api.Rat) api.Rat { return sure(rational.Sub(x, y)) }
func times(x, y api.Rat) api.Rat { return sure(rational.Mul(x, y)) }
func over(x, y api.Rat) api.Rat  { return sure(rational.Div(x, y)) }

func denominator(x api.Rat) api.Rat {
	_, den, _ := rational.Parts(x)
	return api.Rat(den)
}

// scalar returns the scalar product of two lists of the same length.
func scalar(a, b []api.Rat) api.Rat {
	sum := api.Rat("0")
	for i, x := range a {
		sum = plus(sum, times(x, b[i]))
	}
	return sum
}
