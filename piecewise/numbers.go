package piecewise

import (
	"garboard/api"
	"garboard/polynomial"
	"garboard/rational"
)

// sure returns a result that comes without an error: that of valid numbers and polynomials, and of a degree that does not grow.
func sure[T any](result T, _ api.Errno) T { return result }

func minus(x, y api.Rat) api.Rat            { return sure(rational.Sub(x, y)) }
func order(x, y api.Rat) int                { return sure(rational.Compare(x, y)) }
func sum(p, r api.Poly) api.Poly            { return sure(polynomial.Add(p, r)) }
func product(p, r api.Poly) api.Poly        { return sure(polynomial.Mul(p, r)) }
func constant(x api.Rat) api.Poly           { return sure(polynomial.Make([]api.Rat{x})) }
func valueOf(p api.Poly, x api.Rat) api.Rat { return sure(polynomial.Eval(p, x)) }
