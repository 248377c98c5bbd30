package polynomial

import (
	"math/big"
	"math/rand"
	"slices"
	"strings"
	"testing"

	"garboard/api"
)

// none are strings that are no numbers.
var none = []api.Rat{"", "-0", "2/4", "1.5", "01", "1/0", "4/1", "x", "\xff", "123456789012345678901234567890/246913578024691357802469135780"}

// kinds are random numbers of many kinds: mostly 0, small, quotients, and long ones.
var kinds = []func(*rand.Rand) *big.Rat{
	func(source *rand.Rand) *big.Rat { return big.NewRat(max(0, source.Int63n(5)-3), 1) },
	func(source *rand.Rand) *big.Rat { return big.NewRat(source.Int63n(7)-3, 1) },
	func(source *rand.Rand) *big.Rat { return big.NewRat(source.Int63n(19)-9, 1+source.Int63n(6)) },
	func(source *rand.Rand) *big.Rat {
		return big.NewRat(source.Int63()-source.Int63(), 1+source.Int63n(1000000000000))
	},
}

// polynomials returns random ones of each kind and of all degrees to a greatest one, and the zero polynomial.
func polynomials(source *rand.Rand, most int) [][]*big.Rat {
	out := [][]*big.Rat{nil}
	for degree := range most + 1 {
		for _, kind := range kinds {
			var p []*big.Rat
			for range degree {
				p = append(p, kind(source))
			}
			leading := kind(source)
			for leading.Sign() == 0 {
				leading = kind(source)
			}
			out = append(out, append(p, leading))
		}
	}
	return out
}

// some returns numbers at which polynomials are asked.
func some(source *rand.Rand) []*big.Rat {
	out := []*big.Rat{new(big.Rat), big.NewRat(1, 1), big.NewRat(-1, 1)}
	for _, kind := range kinds {
		out = append(out, kind(source), kind(source))
	}
	return out
}

// text returns the canonical text of a number.
func text(x *big.Rat) api.Rat { return api.Rat(x.RatString()) }

// texts returns the polynomial with some coefficients, without zeros at the end.
func texts(p []*big.Rat) api.Poly {
	var out api.Poly
	for _, c := range p {
		out = append(out, text(c))
	}
	for len(out) > 0 && out[len(out)-1] == "0" {
		out = out[:len(out)-1]
	}
	return out
}

// rat needs a number.
func rat(x api.Rat) *big.Rat {
	n, ok := new(big.Rat).SetString(string(x))
	if !ok {
		panic("no number: " + string(x))
	}
	return n
}

func rats(p api.Poly) []*big.Rat {
	var out []*big.Rat
	for _, c := range p {
		out = append(out, rat(c))
	}
	return out
}

// read reads coefficients.
func read(s string) api.Poly {
	var out api.Poly
	for word := range strings.FieldsSeq(s) {
		out = append(out, api.Rat(word))
	}
	return out
}

// coefficient returns that of a power, also of one that is higher than the degree.
func coefficient(p []*big.Rat, power int) *big.Rat {
	if power >= len(p) {
		return new(big.Rat)
	}
	return p[power]
}

// convolved returns the product as it is defined.
func convolved(p, r []*big.Rat) []*big.Rat {
	out := make([]*big.Rat, len(p)+len(r))
	for power := range out {
		out[power] = new(big.Rat)
		for i := range power + 1 {
			out[power].Add(out[power], new(big.Rat).Mul(coefficient(p, i), coefficient(r, power-i)))
		}
	}
	return out
}

// combined returns the sum of one polynomial and a multiple of another one.
func combined(p, r []*big.Rat, factor int64) []*big.Rat {
	out := make([]*big.Rat, max(len(p), len(r)))
	for i := range out {
		out[i] = new(big.Rat).Mul(coefficient(r, i), big.NewRat(factor, 1))
		out[i].Add(out[i], coefficient(p, i))
	}
	return out
}

// value returns the sum of the terms of a polynomial.
func value(p []*big.Rat, x *big.Rat) *big.Rat {
	sum, power := new(big.Rat), big.NewRat(1, 1)
	for _, c := range p {
		sum.Add(sum, new(big.Rat).Mul(c, power))
		power = new(big.Rat).Mul(power, x)
	}
	return sum
}

// P8.1
func TestValid(t *testing.T) {
	for _, p := range polynomials(rand.New(rand.NewSource(1)), api.MaxDegree) {
		if !Valid(texts(p)) {
			t.Errorf("%v is valid", texts(p))
		}
	}
	long := slices.Repeat(api.Poly{"0"}, api.MaxDegree)
	for _, c := range []struct {
		p  api.Poly
		is bool
	}{
		{nil, true}, {api.Poly{}, true}, {read("1"), true}, {read("0 0 -1/2"), true}, {append(slices.Clone(long), "7"), true},
		{read("0"), false}, {read("1 0"), false}, {read("0 0 0"), false}, {long, false}, {append(slices.Clone(long), "0"), false}, {append(slices.Clone(long), "0", "1"), false}, {slices.Repeat(api.Poly{"1"}, api.MaxDegree+2), false}, {slices.Repeat(api.Poly{"1"}, 1000), false},
	} {
		if Valid(c.p) != c.is {
			t.Errorf("Valid(%v) is %v", c.p, !c.is)
		}
	}
	for _, x := range none {
		for _, p := range []api.Poly{{x}, {x, "1"}, {"1", x}, {"1", x, "0", "1"}} {
			if Valid(p) {
				t.Errorf("%q is not valid", p)
			}
		}
	}
}

// P8.1
func TestMake(t *testing.T) {
	for _, p := range polynomials(rand.New(rand.NewSource(2)), api.MaxDegree) {
		want := texts(p)
		for zeros := range api.MaxDegree + 2 - len(want) {
			l := append(slices.Clone(want), slices.Repeat(api.Poly{"0"}, zeros)...)
			if got, e := Make(l); e != api.OK || !slices.Equal(got, want) {
				t.Errorf("Make(%v) is %v, %d", l, got, e)
			}
		}
	}
}

// P8.2, P8.5: also of polynomials that cancel each other.
func TestAddAndSub(t *testing.T) {
	source := rand.New(rand.NewSource(3))
	all := polynomials(source, api.MaxDegree)
	for i, p := range all {
		for _, r := range [][]*big.Rat{p, combined(nil, p, -1), all[(i*7+1)%len(all)], all[source.Intn(len(all))], nil} {
			if got, e := Add(texts(p), texts(r)); e != api.OK || !slices.Equal(got, texts(combined(p, r, 1))) {
				t.Errorf("%v + %v is %v, %d", texts(p), texts(r), got, e)
			}
			if got, e := Sub(texts(p), texts(r)); e != api.OK || !slices.Equal(got, texts(combined(p, r, -1))) {
				t.Errorf("%v - %v is %v, %d", texts(p), texts(r), got, e)
			}
		}
	}
	for _, c := range [][3]string{{"1 2 3", "1 5 -3", "2 7"}, {"1 0 1/2", "-1 0 -1/2", ""}, {"1 0 0 1", "0 0 0 -1", "1"}, {"0 0 2", "5", "5 0 2"}} {
		if got, e := Add(read(c[0]), read(c[1])); e != api.OK || !slices.Equal(got, read(c[2])) {
			t.Errorf("%s plus %s is %v, %d", c[0], c[1], got, e)
		}
	}
}

// P8.2
func TestMul(t *testing.T) {
	source := rand.New(rand.NewSource(4))
	all := polynomials(source, api.MaxDegree)
	for _, p := range all {
		for range 10 {
			r := all[source.Intn(len(all))]
			got, e := Mul(texts(p), texts(r))
			if isLong := len(p) > 0 && len(r) > 0 && len(p)+len(r)-2 > api.MaxDegree; isLong {
				if got != nil || e != api.ErrLimit {
					t.Errorf("%v times %v is %v, %d", texts(p), texts(r), got, e)
				}
			} else if e != api.OK || !slices.Equal(got, texts(convolved(p, r))) {
				t.Errorf("%v times %v is %v, %d", texts(p), texts(r), got, e)
			}
		}
	}
}

// P8.3
func TestEval(t *testing.T) {
	source := rand.New(rand.NewSource(5))
	for _, p := range polynomials(source, api.MaxDegree) {
		for _, x := range some(source) {
			if got, e := Eval(texts(p), text(x)); e != api.OK || got != text(value(p, x)) {
				t.Errorf("the value of %v at %s is %s, %d", texts(p), text(x), got, e)
			}
		}
	}
}

// P8.3, P8.5: the derivative of the integral is the polynomial.
func TestDeriveAndIntegrate(t *testing.T) {
	for _, p := range polynomials(rand.New(rand.NewSource(6)), api.MaxDegree) {
		var slope []*big.Rat
		integral := []*big.Rat{new(big.Rat)}
		for i, c := range p {
			if i > 0 {
				slope = append(slope, new(big.Rat).Mul(c, big.NewRat(int64(i), 1)))
			}
			integral = append(integral, new(big.Rat).Quo(c, big.NewRat(int64(i+1), 1)))
		}
		if got, e := Derive(texts(p)); e != api.OK || !slices.Equal(got, texts(slope)) {
			t.Errorf("the derivative of %v is %v, %d", texts(p), got, e)
		}
		got, e := Integrate(texts(p))
		if len(p) > api.MaxDegree {
			if got != nil || e != api.ErrLimit {
				t.Errorf("the integral of %v is %v, %d", texts(p), got, e)
			}
			continue
		}
		if e != api.OK || !slices.Equal(got, texts(integral)) {
			t.Errorf("the integral of %v is %v, %d", texts(p), got, e)
		}
		if back, e := Derive(got); e != api.OK || !slices.Equal(back, texts(p)) {
			t.Errorf("the derivative of the integral of %v is %v, %d", texts(p), back, e)
		}
	}
}

// P8.3, P8.5: by the binomial theorem, and by values.
func TestShift(t *testing.T) {
	source := rand.New(rand.NewSource(7))
	for _, p := range polynomials(source, api.MaxDegree) {
		for _, a := range some(source) {
			want := make([]*big.Rat, len(p))
			for k := range want {
				want[k] = new(big.Rat)
				power := big.NewRat(1, 1)
				for i := k; i < len(p); i++ {
					term := new(big.Rat).SetInt(new(big.Int).Binomial(int64(i), int64(k)))
					want[k].Add(want[k], term.Mul(term, new(big.Rat).Mul(power, p[i])))
					power = new(big.Rat).Mul(power, a)
				}
			}
			got, e := Shift(texts(p), text(a))
			if e != api.OK || !slices.Equal(got, texts(want)) {
				t.Errorf("%v shifted by %s is %v, %d", texts(p), text(a), got, e)
			}
			x := big.NewRat(5, 3)
			if value(rats(got), x).Cmp(value(p, new(big.Rat).Add(x, a))) != 0 {
				t.Errorf("%v shifted by %s is %v, which has another value at 5/3", texts(p), text(a), got)
			}
		}
	}
}

// P8.5: values of sums and products are sums and products of values, and the derivative of a product follows the product rule.
func TestRulesOfProducts(t *testing.T) {
	source := rand.New(rand.NewSource(8))
	ps, rs := polynomials(source, 8), polynomials(source, 8)
	for i, p := range ps {
		first, second := texts(p), texts(rs[(i*11+3)%len(rs)])
		sum, _ := Add(first, second)
		product, e := Mul(first, second)
		if e != api.OK {
			t.Fatal(first, second, e)
		}
		for _, x := range some(source) {
			a, b := value(p, x), value(rats(second), x)
			if value(rats(sum), x).Cmp(new(big.Rat).Add(a, b)) != 0 || value(rats(product), x).Cmp(new(big.Rat).Mul(a, b)) != 0 {
				t.Errorf("%v and %v have other values at %s than %v and %v", first, second, text(x), sum, product)
			}
		}
		firstSlope, _ := Derive(first)
		secondSlope, _ := Derive(second)
		slope, _ := Derive(product)
		if want := combined(convolved(rats(firstSlope), rats(second)), convolved(p, rats(secondSlope)), 1); !slices.Equal(slope, texts(want)) {
			t.Errorf("the derivative of %v is %v", product, slope)
		}
	}
}

// The chapter's examples.
func TestExamples(t *testing.T) {
	is := func(what string, p api.Poly, e api.Errno, want string) {
		t.Helper()
		if e != api.OK || !slices.Equal(p, read(want)) {
			t.Errorf("%s is %v, %d", what, p, e)
		}
	}
	product, e := Mul(read("1 1"), read("1 -1"))
	is("the product", product, e, "1 0 -1")
	quotient, rest, e := DivMod(product, read("1 1"))
	is("the quotient", quotient, e, "1 -1")
	is("the remainder", rest, e, "")
	integral, e := Integrate(product)
	is("the integral", integral, e, "0 1 0 -1/3")
	if a, e := Enclose(read("0 -1 1"), api.Interval{Lo: "-1", Hi: "2"}); e != api.OK || a != (api.Interval{Lo: "-4", Hi: "2"}) {
		t.Errorf("the enclosure is %v, %d", a, e)
	}
}
