package root

import (
	"math/big"
	"testing"

	"garboard/api"
)

// factors and radicands are numbers whose terms have all signs, and cancel each other in many ways.
var (
	factors   = []api.Rat{"-3", "-2", "-3/2", "-1", "-1/2", "0", "1/2", "1", "3/2", "2", "3", "-14142135623730950488/10000000000000000000", "14142135623730950488/10000000000000000000", "14142135623730950489/10000000000000000000"}
	radicands = []api.Rat{"0", "1/4", "1", "2", "9/4", "3", "8", "9", "4/9", "20000000000000000000000000000000000001/10000000000000000000000000000000000000"}
)

// rooted returns a number times a root with 1000 bits.
func rooted(a, b api.Rat) *big.Float {
	factor := new(big.Float).SetPrec(1000).SetRat(rat(a))
	under := new(big.Float).SetPrec(1000).SetRat(rat(b))
	return factor.Mul(factor, under.Sqrt(under))
}

// signOf returns the sign of a sum of such terms. The squares of those above are quotients with at most 80 digits, so that no sum but 0 is as little as what is taken for 0 here.
func signOf(x *big.Float) int {
	least := new(big.Float).SetMantExp(big.NewFloat(1), -800)
	if new(big.Float).Abs(x).Cmp(least) < 0 {
		return 0
	}
	return x.Sign()
}

func canonical(l []api.Rat) []api.Rat {
	var out []api.Rat
	for _, x := range l {
		out = append(out, text(rat(x)))
	}
	return out
}

// P5.2
func TestSign(t *testing.T) {
	for _, a := range canonical(factors) {
		for _, b := range canonical(factors) {
			for _, c := range radicands {
				sum := rooted(b, c)
				sum.Add(sum, rooted(a, "1"))
				if s, e := Sign(a, b, c); e != api.OK || s != signOf(sum) {
					t.Errorf("the sign of %s + %s times the root of %s is %d, %d", a, b, c, s, e)
				}
			}
		}
	}
}

// P5.2
func TestCompare(t *testing.T) {
	for _, a := range canonical(factors) {
		for _, b := range radicands {
			for _, c := range canonical(factors) {
				for _, d := range radicands {
					difference := rooted(a, b)
					difference.Sub(difference, rooted(c, d))
					if s, e := Compare(a, b, c, d); e != api.OK || s != signOf(difference) {
						t.Errorf("%s times the root of %s, compared with %s times that of %s, is %d, %d", a, b, c, d, s, e)
					}
				}
			}
		}
	}
}

// P5.2, P5.4: p and q with p^2 - 2 q^2 = 1 or -1, for which p and q times the root of 2 differ by less than 1/q: no enclosure with a denominator that is permitted decides this.
func TestSignsOfLittleDifferences(t *testing.T) {
	p, q := big.NewInt(1), big.NewInt(1)
	for i := range 400 {
		want := 1 - 2*((i+1)%2)
		a, b := api.Rat(p.String()), api.Rat(q.String())
		for _, c := range []struct {
			sign int
			of   func() (int, api.Errno)
		}{
			{want, func() (int, api.Errno) { return Sign(a, "-"+b, "2") }},
			{-want, func() (int, api.Errno) { return Sign("-"+a, b, "2") }},
			{want, func() (int, api.Errno) { return Compare(a, "1", b, "2") }},
			{-want, func() (int, api.Errno) { return Compare(b, "2", a, "1") }},
			{want, func() (int, api.Errno) { return Compare("-"+b, "2", "-"+a, "1") }},
		} {
			if s, e := c.of(); e != api.OK || s != c.sign {
				t.Fatalf("%s and %s times the root of 2: %d, %d instead of %d", a, b, s, e, c.sign)
			}
		}
		p, q = new(big.Int).Add(p, new(big.Int).Lsh(q, 1)), new(big.Int).Add(p, q)
	}
}

// P5.2: roots that are the same number in different ways.
func TestSignsOfNothing(t *testing.T) {
	for _, c := range [][4]api.Rat{{"3", "1", "2", "9/4"}, {"-3", "1", "-2", "9/4"}, {"2", "3", "1", "12"}, {"-2", "3", "-1", "12"}, {"0", "5", "7", "0"}, {"0", "0", "0", "0"}, {"1/3", "45", "1", "5"}, {"100000000000000000000", "7", "1", "70000000000000000000000000000000000000000"}} {
		if s, e := Compare(c[0], c[1], c[2], c[3]); e != api.OK || s != 0 {
			t.Errorf("Compare(%s) is %d, %d", c, s, e)
		}
	}
	for _, c := range [][3]api.Rat{{"3", "-2", "9/4"}, {"-3", "2", "9/4"}, {"0", "0", "2"}, {"0", "2", "0"}, {"0", "0", "0"}, {"-1", "1", "1"}} {
		if s, e := Sign(c[0], c[1], c[2]); e != api.OK || s != 0 {
			t.Errorf("Sign(%s) is %d, %d", c, s, e)
		}
	}
}
