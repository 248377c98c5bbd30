package root

import (
	"garboard/api"
	"garboard/rational"
)

// sure returns a result that comes without an error: that of valid numbers, and of a divisor other than 0.
func sure[T any](result T, _ api.Errno) T { return result }

func plus(x, y api.Rat) api.Rat  { return sure(rational.Add(x, y)) }
func times(x, y api.Rat) api.Rat { return sure(rational.Mul(x, y)) }
func over(x, y api.Rat) api.Rat  { return sure(rational.Div(x, y)) }
func floor(x api.Rat) api.Rat    { return api.Rat(sure(rational.Floor(x))) }
func order(x, y api.Rat) int     { return sure(rational.Compare(x, y)) }
func sign(x api.Rat) int         { return order(x, "0") }
