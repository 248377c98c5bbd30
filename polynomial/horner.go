package polynomial

import "garboard/api"

// The following methods go Horner's way: from the highest coefficient on, what there is so far is multiplied by what stands for the variable, and the coefficient is added.

func (p poly) at(x api.Rat) api.Rat {
	value := api.Rat("0")
	for c := range p.backwards() {
		value = plus(times(value, x), c)
	}
	return value
}

func (p poly) shifted(a api.Rat) poly {
	var out poly
	for c := range p.backwards() {
		out = out.times(poly{a, "1"}).plus(poly{c})
	}
	return out
}

func (p poly) on(in api.Interval) api.Interval {
	values := exactly("0")
	for c := range p.backwards() {
		values = sum(multiply(values, in), exactly(c))
	}
	return values
}
