package sturm

import (
	"cmp"
	"math/big"
	"math/rand"
	"slices"
	"strings"

	"garboard/api"
)

// text returns the canonical text of a number.
func text(x *big.Rat) api.Rat { return api.Rat(x.RatString()) }

// texts returns the polynomial with some coefficients, without zeros at the end.
func texts(p []*big.Rat) api.Poly {
	var out api.Poly
	for _, c := range p {
		out = append(out, text(c))
	}
	for len(out) > 0 && out[len(out)-1] == "0" {
		out = out[:len(out)-1]
	}
	return out
}

// rat needs a number.
func rat[S ~string](x S) *big.Rat {
	n, ok := new(big.Rat).SetString(string(x))
	if !ok {
		panic("no number: " + string(x))
	}
	return n
}

func rats(p api.Poly) []*big.Rat {
	var out []*big.Rat
	for _, c := range p {
		out = append(out, rat(c))
	}
	return out
}

// read reads coefficients, that of the lowest power first.
func read(s string) api.Poly {
	var out api.Poly
	for word := range strings.FieldsSeq(s) {
		out = append(out, api.Rat(word))
	}
	return out
}

func multiplied(p, r []*big.Rat) []*big.Rat {
	if len(p) == 0 || len(r) == 0 {
		return nil
	}
	out := make([]*big.Rat, len(p)+len(r)-1)
	for i := range out {
		out[i] = new(big.Rat)
	}
	for i, c := range p {
		for k, d := range r {
			out[i+k].Add(out[i+k], new(big.Rat).Mul(c, d))
		}
	}
	return out
}

// value returns the sum of the terms of a polynomial.
func value(p []*big.Rat, x *big.Rat) *big.Rat {
	sum, power := new(big.Rat), big.NewRat(1, 1)
	for _, c := range p {
		sum.Add(sum, new(big.Rat).Mul(c, power))
		power = new(big.Rat).Mul(power, x)
	}
	return sum
}

// root is a sign times the square root of a number, so that it is compared exactly.
type root struct {
	sign   int
	square *big.Rat
}

func rootOf(x *big.Rat) root { return root{x.Sign(), new(big.Rat).Mul(x, x)} }

func (r root) compare(s root) int {
	if r.sign != s.sign {
		return cmp.Compare(r.sign, s.sign)
	}
	return r.sign * r.square.Cmp(s.square)
}

// factor is a polynomial with the leading coefficient 1 that cannot be divided further, with its roots.
type factor struct {
	p     []*big.Rat
	roots []root
}

// factors are those with a rational root, with two irrational ones, and without any.
func factors() []factor {
	var out []factor
	for _, x := range []string{"0", "1", "-1", "2", "1/2", "-7/3", "3/8", "1000", "123456789/1000000007"} {
		r := rat(x)
		out = append(out, factor{[]*big.Rat{new(big.Rat).Neg(r), big.NewRat(1, 1)}, []root{rootOf(r)}})
	}
	for _, x := range []string{"2", "3", "1/2", "5/7", "2000001/1000000"} {
		q := rat(x)
		out = append(out, factor{[]*big.Rat{new(big.Rat).Neg(q), new(big.Rat), big.NewRat(1, 1)}, []root{{-1, q}, {1, q}}})
	}
	for _, p := range []string{"1 0 1", "1 1 1", "2/3 1 1", "2 0 0 0 1"} {
		out = append(out, factor{rats(read(p)), nil})
	}
	return out
}

// known is a polynomial whose simple part and roots are known.
type known struct {
	p, simple []*big.Rat
	roots     []root
}

// composed returns the product of a constant and of factors, each of them several times.
func composed(constant *big.Rat, all []factor, powers []int) known {
	k := known{p: []*big.Rat{constant}, simple: []*big.Rat{big.NewRat(1, 1)}}
	for i, power := range powers {
		if power > 0 {
			k.simple = multiplied(k.simple, all[i].p)
			k.roots = append(k.roots, all[i].roots...)
		}
		for range power {
			k.p = multiplied(k.p, all[i].p)
		}
	}
	slices.SortFunc(k.roots, root.compare)
	return k
}

// knowns returns random polynomials of all degrees to a greatest one.
func knowns(source *rand.Rand, most int) []known {
	var out []known
	all := factors()
	for degree := range most + 1 {
		for range 4 {
			powers := make([]int, len(all))
			for rest, i := degree, 0; rest > 0; {
				if i = source.Intn(len(all)); len(all[i].p)-1 <= rest {
					powers[i]++
					rest -= len(all[i].p) - 1
				}
			}
			constant := big.NewRat(1+source.Int63n(99), 1+source.Int63n(9))
			if source.Intn(2) == 0 {
				constant.Neg(constant)
			}
			out = append(out, composed(constant, all, powers))
		}
	}
	return out
}

// span is a range.
type span struct{ lo, hi *big.Rat }

func (s span) interval() api.Interval { return api.Interval{Lo: text(s.lo), Hi: text(s.hi)} }

func (s span) middle() *big.Rat {
	m := new(big.Rat).Add(s.lo, s.hi)
	return m.Quo(m, big.NewRat(2, 1))
}

// spans returns random ranges, many of whose ends and middles are roots of factors.
func spans(source *rand.Rand, count int) []span {
	ends := rats(read("-2000 -7/3 -3/2 -1 -13/8 -1/2 0 123456789/1000000007 3/8 1/2 1 1414213562/1000000000 1414213563/1000000000 2 7/2 1000 3000"))
	slices.SortFunc(ends, (*big.Rat).Cmp)
	out := []span{{ends[0], ends[len(ends)-1]}}
	for len(out) < count {
		i, k := source.Intn(len(ends)), source.Intn(len(ends))
		if i < k {
			out = append(out, span{ends[i], ends[k]})
		}
	}
	return out
}

// rootsIn returns those that are greater than the lower end, and at most the upper one.
func (k known) rootsIn(s span) []root {
	return slices.DeleteFunc(slices.Clone(k.roots), func(r root) bool {
		return r.compare(rootOf(s.lo)) <= 0 || r.compare(rootOf(s.hi)) > 0
	})
}

// isolated isolates as it is defined; it reports whether the halvings are enough.
func (k known) isolated(s span, halvings int) ([]span, bool) {
	switch roots := len(k.rootsIn(s)); {
	case roots == 0:
		return nil, true
	case roots == 1:
		return []span{s}, true
	case halvings == 0:
		return nil, false
	}
	first, isFirst := k.isolated(span{s.lo, s.middle()}, halvings-1)
	second, isSecond := k.isolated(span{s.middle(), s.hi}, halvings-1)
	return append(first, second...), isFirst && isSecond
}

// narrowed narrows a range with one root as it is defined.
func (k known) narrowed(s span, times int) span {
	for range times {
		lower, upper := span{s.lo, s.middle()}, span{s.middle(), s.hi}
		s = upper
		if len(k.rootsIn(lower)) == 1 {
			s = lower
		}
	}
	return s
}

func intervals(l []span) []api.Interval {
	var out []api.Interval
	for _, s := range l {
		out = append(out, s.interval())
	}
	return out
}

// enclosed returns the least and the greatest number of Horner's way with an interval.
func enclosed(p []*big.Rat, s span) span {
	lo, hi := new(big.Rat), new(big.Rat)
	for i := len(p) - 1; i >= 0; i-- {
		var ends []*big.Rat
		for _, x := range []*big.Rat{s.lo, s.hi} {
			ends = append(ends, new(big.Rat).Mul(lo, x), new(big.Rat).Mul(hi, x))
		}
		slices.SortFunc(ends, (*big.Rat).Cmp)
		lo, hi = new(big.Rat).Add(ends[0], p[i]), new(big.Rat).Add(ends[3], p[i])
	}
	return span{lo, hi}
}

// integrated returns the integral with a value at 0.
func integrated(p []*big.Rat, constant *big.Rat) []*big.Rat {
	out := []*big.Rat{constant}
	for i, c := range p {
		out = append(out, new(big.Rat).Quo(c, big.NewRat(int64(i+1), 1)))
	}
	return out
}

// extremes returns those of an integral of a known polynomial as they are defined; it reports whether the roots can be isolated.
func (k known) extremes(p []*big.Rat, s span, times int) (least, greatest api.Interval, ok bool) {
	values := []span{{value(p, s.lo), value(p, s.lo)}, {value(p, s.hi), value(p, s.hi)}}
	found, ok := k.isolated(s, 24)
	for _, at := range found {
		values = append(values, enclosed(p, k.narrowed(at, times)))
	}
	var lows, highs []*big.Rat
	for _, v := range values {
		lows, highs = append(lows, v.lo), append(highs, v.hi)
	}
	slices.SortFunc(lows, (*big.Rat).Cmp)
	slices.SortFunc(highs, (*big.Rat).Cmp)
	last := len(values) - 1
	return span{lows[0], highs[0]}.interval(), span{lows[last], highs[last]}.interval(), ok
}
