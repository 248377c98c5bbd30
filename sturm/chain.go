package sturm

import (
	"iter"

	"garboard/api"
)

// chain is the chain of remainders of a polynomial and its derivative, divided by the last of them, their greatest common divisor. So it begins with a multiple of the simple part, and the second one has the sign of the derivative of the first one at the roots of this: the changes of sign from one polynomial to the next one become fewer by one at each root, and at no other place.
type chain []api.Poly

// chainOf needs a polynomial that is not zero.
func chainOf(p api.Poly) chain {
	var c chain
	for r := range remainders(p) {
		c = append(c, r)
	}
	last := c[len(c)-1]
	for i, r := range c {
		c[i] = quotient(r, last)
	}
	return c
}

// remainders yields a polynomial, its derivative, and then the opposite of the remainder of the last two, as long as there is one. All are positive multiples that have integers: their signs are the same, and sums of integers need no common denominators.
func remainders(p api.Poly) iter.Seq[api.Poly] {
	return func(yield func(api.Poly) bool) {
		before, last := primitive(p), primitive(derived(p))
		for yield(before) && len(last) > 0 {
			before, last = last, opposite(before, last)
		}
	}
}

// opposite multiplies what is divided by the size of the leading coefficient as often as the division divides by this, so that integers stay integers.
func opposite(p, r api.Poly) api.Poly {
	factor := size(leading(r))
	for range len(p) - len(r) + 1 {
		p = scaled(p, factor)
	}
	return primitive(scaled(remainder(p, r), "-1"))
}

// primitive returns the positive multiple whose coefficients are integers without a common divisor. A number of which two numbers are multiples by integers is the second one over the denominator of their quotient.
func primitive(p api.Poly) api.Poly {
	if len(p) == 0 {
		return nil
	}
	unit := size(leading(p))
	for _, c := range p {
		_, den := parts(over(c, unit))
		unit = over(unit, den)
	}
	return scaled(p, over("1", unit))
}

// changes returns how many signs at a number are opposite to the one before, without those that are 0.
func (c chain) changes(x api.Rat) int {
	count, last := 0, 0
	note := func(sign int) {
		if sign == 0 {
			return
		}
		if sign == -last {
			count++
		}
		last = sign
	}
	at := c.place(x)
	for _, p := range c {
		note(at.sign(p))
	}
	return count
}

// place is a number, as its numerator and the powers of its denominator.
type place struct {
	num    api.Rat
	powers []api.Rat
}

// place has the powers that the longest polynomial of the chain needs, which is the first one.
func (c chain) place(x api.Rat) place {
	num, den := parts(x)
	at := place{num, []api.Rat{"1"}}
	for i := range len(c[0]) - 1 {
		at.powers = append(at.powers, times(at.powers[i], den))
	}
	return at
}

// sign goes Horner's way with all multiplied by the greatest power of the denominator: integers are much faster than quotients.
func (at place) sign(p api.Poly) int {
	value := api.Rat("0")
	for i := range p {
		c := p[len(p)-1-i]
		value = plus(times(value, at.num), times(c, at.powers[i]))
	}
	return sign(value)
}
