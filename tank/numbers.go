package tank

import (
	"slices"

	"garboard/api"
	"garboard/rational"
)

func areNumbers(l ...api.Rat) bool {
	return !slices.ContainsFunc(l, func(x api.Rat) bool { return !rational.Valid(x) })
}

// doIncrease needs valid numbers, as the following functions do.
func doIncrease(l []api.Rat) bool {
	for i := 1; i < len(l); i++ {
		if !isLess(l[i-1], l[i]) {
			return false
		}
	}
	return true
}

// sure returns a result that comes without an error, because what it is computed from is valid, and a divisor is not 0.
func sure[T any](result T, _ api.Errno) T { return result }

func plus(x, y api.Rat) api.Rat  { return sure(rational.Add(x, y)) }
func minus(x, y api.Rat) api.Rat { return sure(rational.Sub(x, y)) }
func times(x, y api.Rat) api.Rat { return sure(rational.Mul(x, y)) }
func over(x, y api.Rat) api.Rat  { return sure(rational.Div(x, y)) }
func isLess(x, y api.Rat) bool   { return sure(rational.Compare(x, y)) < 0 }
func isPositive(x api.Rat) bool  { return isLess("0", x) }
