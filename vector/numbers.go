package vector

import (
	"garboard/api"
	"garboard/rational"
)

// known returns a result without its error. Every operation answers "" to a number that is not valid, as "" itself is: so it is enough to look at what comes out in the end, and no number is checked twice.
func known[T any](result T, _ api.Errno) T { return result }

func plus(x, y api.Rat) api.Rat  { return known(rational.Add(x, y)) }
func minus(x, y api.Rat) api.Rat { return known(rational.Sub(x, y)) }
func times(x, y api.Rat) api.Rat { return known(rational.Mul(x, y)) }

// over needs a divisor that is not 0.
func over(x, y api.Rat) api.Rat { return known(rational.Div(x, y)) }

// order returns 0 if a number is not valid.
func order(x, y api.Rat) int { return known(rational.Compare(x, y)) }

// checked returns a number, or the error of a result that is none.
func checked(x api.Rat) (api.Rat, api.Errno) {
	if x == "" {
		return "", api.ErrArg
	}
	return x, api.OK
}
