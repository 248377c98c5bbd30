package polynomial

import "slices"

// divide returns the quotient and the remainder by a polynomial that is not zero.
func (p poly) divide(r poly) (quotient, rest poly) {
	top := len(r) - 1
	rest = slices.Clone(p)
	quotient = make(poly, max(0, len(p)-top))
	for power := len(quotient) - 1; power >= 0; power-- {
		factor := over(rest[power+top], r.leading())
		quotient[power] = factor
		for i, c := range r {
			rest[power+i] = minus(rest[power+i], times(factor, c))
		}
	}
	return quotient, trim(rest)
}

// common returns the greatest common divisor. It is Euclid's algorithm with primitive multiples, because sums of integers need no common denominators.
func (p poly) common(r poly) poly {
	p, r = p.primitive(), r.primitive()
	for len(r) > 0 {
		p, r = r, p.remainder(r).primitive()
	}
	return p.monic()
}

// remainder returns a multiple of the remainder by a polynomial that is not zero. What is divided is multiplied by the leading coefficient as often as the division divides by it, so that integers stay integers.
func (p poly) remainder(r poly) poly {
	for range len(p) - len(r) + 1 {
		p = p.scaled(r.leading())
	}
	_, rest := p.divide(r)
	return rest
}

// primitive returns the multiple whose coefficients are integers without a common divisor, the leading one of them greater than 0.
func (p poly) primitive() poly {
	out := p.monic()
	for i := range out {
		if factor := denominator(out[i]); factor != "1" {
			out = out.scaled(factor)
		}
	}
	return out
}

// monic returns the multiple with the leading coefficient 1.
func (p poly) monic() poly {
	if len(p) == 0 {
		return nil
	}
	factor := over("1", p.leading())
	return p.scaled(factor)
}
