package polynomial

import (
	"iter"
	"slices"

	"garboard/api"
)

// poly is a list of valid numbers, the last one of which is not 0: a polynomial whose degree is not limited. The results of its methods are new lists.
type poly []api.Rat

// trim returns a polynomial with some coefficients, in their memory.
func trim(l []api.Rat) poly {
	for len(l) > 0 && l[len(l)-1] == "0" {
		l = l[:len(l)-1]
	}
	return l
}

// backwards yields the coefficients, that of the highest power first.
func (p poly) backwards() iter.Seq[api.Rat] {
	return func(yield func(api.Rat) bool) {
		for i := len(p) - 1; i >= 0; i-- {
			if !yield(p[i]) {
				return
			}
		}
	}
}

// leading needs a polynomial that is not zero.
func (p poly) leading() api.Rat { return p[len(p)-1] }

func (p poly) plus(r poly) poly {
	if len(p) < len(r) {
		p, r = r, p
	}
	out := slices.Clone(p)
	for i, c := range r {
		out[i] = plus(out[i], c)
	}
	return trim(out)
}

func (p poly) minus(r poly) poly { return p.plus(r.scaled("-1")) }

// scaled needs a factor that is not 0.
func (p poly) scaled(factor api.Rat) poly {
	var out poly
	for _, c := range p {
		out = append(out, times(c, factor))
	}
	return out
}

func (p poly) times(r poly) poly {
	if len(p) == 0 || len(r) == 0 {
		return nil
	}
	out := slices.Repeat(poly{"0"}, len(p)+len(r)-1)
	for i, c := range p {
		for k, d := range r {
			out[i+k] = plus(out[i+k], times(c, d))
		}
	}
	return out
}

func (p poly) derivative() poly {
	var out poly
	for i, c := range p {
		if i > 0 {
			out = append(out, times(whole(i), c))
		}
	}
	return out
}

func (p poly) integral() poly {
	out := poly{"0"}
	for i, c := range p {
		out = append(out, over(c, whole(i+1)))
	}
	return trim(out)
}
