package sturm

import (
	"garboard/api"
	"garboard/polynomial"
	"garboard/rational"
)

// sure returns a result that comes without an error: that of valid numbers, intervals and polynomials, of a divisor other than 0, and of a degree that does not grow.
func sure[T any](result T, _ api.Errno) T { return result }

func plus(x, y api.Rat) api.Rat  { return sure(rational.Add(x, y)) }
func times(x, y api.Rat) api.Rat { return sure(rational.Mul(x, y)) }
func over(x, y api.Rat) api.Rat  { return sure(rational.Div(x, y)) }
func order(x, y api.Rat) int     { return sure(rational.Compare(x, y)) }
func sign(x api.Rat) int         { return order(x, "0") }

func size(x api.Rat) api.Rat {
	if sign(x) < 0 {
		return times(x, "-1")
	}
	return x
}

func parts(x api.Rat) (num, den api.Rat) {
	n, d, _ := rational.Parts(x)
	return api.Rat(n), api.Rat(d)
}

func middle(in api.Interval) api.Rat { return over(plus(in.Lo, in.Hi), "2") }

// leading needs a polynomial that is not zero.
func leading(p api.Poly) api.Rat { return p[len(p)-1] }

func derived(p api.Poly) api.Poly { return sure(polynomial.Derive(p)) }

// scaled needs a factor that is not 0.
func scaled(p api.Poly, factor api.Rat) api.Poly {
	return sure(polynomial.Mul(p, api.Poly{factor}))
}

func quotient(p, r api.Poly) api.Poly {
	q, _, _ := polynomial.DivMod(p, r)
	return q
}

func remainder(p, r api.Poly) api.Poly {
	_, rest, _ := polynomial.DivMod(p, r)
	return rest
}
