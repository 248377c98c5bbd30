package interval

import (
	"math/big"
	"slices"
	"testing"

	"garboard/api"
)

// long and longer are numbers with many digits, a little more than 1, and less than 10.
const (
	long   = "12345678901234567890123456789/10000000000000000000000000000"
	longer = "98765432109876543210987654321/10000000000000000000000000000"
)

// none are intervals that are not valid.
var none = []api.Interval{
	{}, {Lo: "1"}, {Hi: "1"}, {Lo: "1", Hi: "0"}, {Lo: "0", Hi: "-1"}, {Lo: "1/2", Hi: "1/3"}, {Lo: "-1/3", Hi: "-1/2"}, {Lo: long, Hi: "1"},
	{Lo: "2/4", Hi: "1"}, {Lo: "0", Hi: "2/4"}, {Lo: "-0", Hi: "0"}, {Lo: "0", Hi: "00"}, {Lo: "x", Hi: "x"}, {Lo: "0.5", Hi: "1"}, {Lo: "1/0", Hi: "1/0"}, {Lo: "0", Hi: "\xff"}, {Lo: "1/1", Hi: "2"},
}

// samples returns all intervals between some numbers of both signs and 0.
func samples() []api.Interval {
	ends := []api.Rat{"-" + longer, "-5/2", "-1", "-1/3", "0", "1/7", "1", "2", longer, "300000000000000000000"}
	var out []api.Interval
	for i, lo := range ends {
		for _, hi := range ends[i:] {
			out = append(out, api.Interval{Lo: lo, Hi: hi})
		}
	}
	return out
}

func toBig(t testing.TB, a api.Rat) *big.Rat {
	t.Helper()
	x, ok := new(big.Rat).SetString(string(a))
	if !ok {
		t.Fatalf("%q is no number", a)
	}
	return x
}

// text returns the canonical text of a number.
func text(x *big.Rat) api.Rat { return api.Rat(x.RatString()) }

// spread returns some numbers of an interval, its ends among them, and 0 if it has it.
func spread(t *testing.T, a api.Interval) []*big.Rat {
	t.Helper()
	lo, hi := toBig(t, a.Lo), toBig(t, a.Hi)
	out := []*big.Rat{lo, hi}
	for _, part := range []*big.Rat{big.NewRat(1, 2), big.NewRat(1, 10), big.NewRat(7, 9)} {
		width := new(big.Rat).Sub(hi, lo)
		out = append(out, new(big.Rat).Add(lo, width.Mul(width, part)))
	}
	if lo.Sign() <= 0 && hi.Sign() >= 0 {
		out = append(out, new(big.Rat))
	}
	return out
}

// hull returns the least interval that has some numbers.
func hull(numbers []*big.Rat) api.Interval {
	compare := func(x, y *big.Rat) int { return x.Cmp(y) }
	return api.Interval{Lo: text(slices.MinFunc(numbers, compare)), Hi: text(slices.MaxFunc(numbers, compare))}
}

// P4.1
func TestValid(t *testing.T) {
	for _, a := range samples() {
		if !Valid(a) {
			t.Errorf("%v is valid", a)
		}
	}
	for _, a := range none {
		if Valid(a) {
			t.Errorf("%v is not valid", a)
		}
	}
}

// P4.1
func TestExact(t *testing.T) {
	for _, x := range []api.Rat{"0", "-1/2", "7", long} {
		if a, e := Exact(x); e != api.OK || a != (api.Interval{Lo: x, Hi: x}) {
			t.Errorf("Exact(%s) is %v, %d", x, a, e)
		}
	}
}

// P4.1
func TestHas(t *testing.T) {
	numbers := []api.Rat{"-300000000000000000000", "-" + longer, "-5/2", "-2", "-" + long, "-1", "-1/3", "-1/4", "0", "1/8", "1/7", "1/6", "1", "2", "3", long, longer, "98765432109876543210987654322/10000000000000000000000000001", "300000000000000000000", "300000000000000000001"}
	for _, a := range samples() {
		for _, x := range numbers {
			want := toBig(t, a.Lo).Cmp(toBig(t, x)) <= 0 && toBig(t, x).Cmp(toBig(t, a.Hi)) <= 0
			if Has(a, x) != want {
				t.Errorf("Has(%v, %s) is %v", a, x, !want)
			}
		}
		for _, x := range []api.Rat{"", "2/2", "0.5", "x", "-0"} {
			if Has(a, x) {
				t.Errorf("%v has %q", a, x)
			}
		}
	}
	for _, a := range none {
		for _, x := range append(numbers, a.Lo, a.Hi, "1/2") {
			if Has(a, x) {
				t.Errorf("%v has %q", a, x)
			}
		}
	}
}

// P4.3
func TestSign(t *testing.T) {
	for _, c := range []struct {
		a    api.Interval
		sign int
		sure bool
	}{
		{api.Interval{Lo: "1/3", Hi: "2"}, 1, true}, {api.Interval{Lo: "2", Hi: "2"}, 1, true}, {api.Interval{Lo: "-2", Hi: "-1/3"}, -1, true}, {api.Interval{Lo: "-2", Hi: "-2"}, -1, true}, {api.Interval{Lo: "0", Hi: "0"}, 0, true},
		{api.Interval{Lo: "0", Hi: "1"}, 0, false}, {api.Interval{Lo: "-1", Hi: "0"}, 0, false}, {api.Interval{Lo: "-1", Hi: "1"}, 0, false}, {api.Interval{Lo: "-" + long, Hi: "1/3"}, 0, false}, {api.Interval{Lo: "1/3", Hi: long}, 1, true},
	} {
		if sign, sure, e := Sign(c.a); e != api.OK || sign != c.sign || sure != c.sure {
			t.Errorf("the sign of %v is %d, %v, %d", c.a, sign, sure, e)
		}
	}
}

// P4.3
func TestMeet(t *testing.T) {
	for _, a := range samples() {
		for _, b := range samples() {
			lo := hull([]*big.Rat{toBig(t, a.Lo), toBig(t, b.Lo)}).Hi
			hi := hull([]*big.Rat{toBig(t, a.Hi), toBig(t, b.Hi)}).Lo
			want, wantAny := api.Interval{Lo: lo, Hi: hi}, true
			if toBig(t, lo).Cmp(toBig(t, hi)) > 0 {
				want, wantAny = api.Interval{}, false
			}
			if c, any := Meet(a, b); c != want || any != wantAny {
				t.Errorf("%v and %v have %v, %v in common", a, b, c, any)
			}
		}
		for _, b := range none {
			c, any := Meet(a, b)
			d, too := Meet(b, a)
			if any || too || c != (api.Interval{}) || d != c {
				t.Errorf("%v and %v have %v, %v in common", a, b, c, d)
			}
		}
	}
}

// P4.3
func TestHull(t *testing.T) {
	all := samples()
	for i := range all {
		for size := 1; size <= 4; size++ {
			var l []api.Interval
			var ends []*big.Rat
			for k := range size {
				l = append(l, all[(i*7+k*k*11)%len(all)])
				ends = append(ends, toBig(t, l[k].Lo), toBig(t, l[k].Hi))
			}
			kept := slices.Clone(l)
			if a, e := Hull(l); e != api.OK || a != hull(ends) {
				t.Errorf("the hull of %v is %v, %d", l, a, e)
			}
			if !slices.Equal(l, kept) {
				t.Errorf("%v has become %v", kept, l)
			}
		}
	}
	if a, e := Hull(slices.Repeat([]api.Interval{{Lo: "1/2", Hi: "2"}}, api.MaxList)); e != api.OK || a != (api.Interval{Lo: "1/2", Hi: "2"}) {
		t.Errorf("the hull of the longest list is %v, %d", a, e)
	}
}

// P4.3
func TestRound(t *testing.T) {
	for _, a := range samples() {
		for _, n := range []int{1, 2, 3, 7, 10, 1000, 999999999, 1000000000} {
			want := api.Interval{Lo: floor(toBig(t, a.Lo), n), Hi: text(new(big.Rat).Neg(toBig(t, floor(new(big.Rat).Neg(toBig(t, a.Hi)), n))))}
			if b, e := Round(a, n); e != api.OK || b != want {
				t.Errorf("%v rounded to %d is %v, %d", a, n, b, e)
			}
		}
	}
	for _, c := range [][5]string{{"1/3", "1/2", "10", "3/10", "1/2"}, {"-1/2", "-1/3", "10", "-1/2", "-3/10"}, {"-1/3", "1/3", "1", "-1", "1"}, {"2", "3", "1", "2", "3"}, {"-1/1000000000", "1/1000000000", "1000000000", "-1/1000000000", "1/1000000000"}} {
		n, _ := new(big.Int).SetString(c[2], 10)
		if b, e := Round(api.Interval{Lo: api.Rat(c[0]), Hi: api.Rat(c[1])}, int(n.Int64())); e != api.OK || b != (api.Interval{Lo: api.Rat(c[3]), Hi: api.Rat(c[4])}) {
			t.Errorf("%v is %v, %d", c, b, e)
		}
	}
}

// floor returns the greatest number k/n that is not greater.
func floor(x *big.Rat, n int) api.Rat {
	times := new(big.Rat).Mul(x, big.NewRat(int64(n), 1))
	return text(new(big.Rat).SetFrac(new(big.Int).Div(times.Num(), times.Denom()), big.NewInt(int64(n))))
}

// The chapter's examples.
func TestExamples(t *testing.T) {
	is := func(what string, a api.Interval, e api.Errno, lo, hi api.Rat) {
		t.Helper()
		if e != api.OK || a != (api.Interval{Lo: lo, Hi: hi}) {
			t.Errorf("%s is %v, %d", what, a, e)
		}
	}
	a, e := Mul(api.Interval{Lo: "-1", Hi: "2"}, api.Interval{Lo: "3", Hi: "4"})
	is("the product", a, e, "-4", "8")
	a, e = Square(api.Interval{Lo: "-1", Hi: "2"})
	is("the square", a, e, "0", "4")
	a, e = Div(api.Interval{Lo: "1", Hi: "2"}, api.Interval{Lo: "-4", Hi: "-2"})
	is("the quotient", a, e, "-1", "-1/4")
	a, e = Round(api.Interval{Lo: "1/3", Hi: "1/2"}, 10)
	is("the rounded interval", a, e, "3/10", "1/2")
}
