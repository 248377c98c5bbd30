package polynomial

import (
	"math/big"
	"math/rand"
	"slices"
	"testing"

	"garboard/api"
)

// P8.2: quotient and remainder are unique, so that it is enough to multiply and to add again.
func TestDivMod(t *testing.T) {
	source := rand.New(rand.NewSource(9))
	all := polynomials(source, api.MaxDegree)
	for _, p := range all {
		for range 12 {
			r := all[1+source.Intn(len(all)-1)]
			q, rest, e := DivMod(texts(p), texts(r))
			if e != api.OK || !Valid(q) || !Valid(rest) || len(rest) >= len(r) || !slices.Equal(texts(combined(convolved(rats(q), r), rats(rest), 1)), texts(p)) {
				t.Errorf("%v divided by %v is %v, %v, %d", texts(p), texts(r), q, rest, e)
			}
		}
	}
	for _, c := range [][4]string{
		{"", "5", "", ""}, {"3", "2", "3/2", ""}, {"1 2 3", "1/2", "2 4 6", ""}, {"1 1", "0 0 1", "", "1 1"}, {"0 0 1", "0 1", "0 1", ""}, {"1 0 0 1", "0 0 1", "0 1", "1"}, {"-1 0 0 0 1", "1 0 1", "-1 0 1", ""}, {"0 0 0 1", "1 2", "1/8 -1/4 1/2", "-1/8"},
	} {
		if q, rest, e := DivMod(read(c[0]), read(c[1])); e != api.OK || !slices.Equal(q, read(c[2])) || !slices.Equal(rest, read(c[3])) {
			t.Errorf("%s divided by %s is %v, %v, %d", c[0], c[1], q, rest, e)
		}
	}
}

// P8.2: all dividends and divisors up to the degree 3 with a few coefficients.
func TestDivModOfSmallOnes(t *testing.T) {
	var all []api.Poly
	for n := range 3 * 3 * 3 * 3 {
		p, e := Make([]api.Rat{whole(n%3 - 1), whole(n/3%3 - 1), whole(n/9%3 - 1), whole(n / 27)})
		if e != api.OK {
			t.Fatal(n, e)
		}
		all = append(all, p)
	}
	for _, p := range all {
		for _, r := range all {
			q, rest, e := DivMod(p, r)
			if len(r) == 0 {
				if q != nil || rest != nil || e != api.ErrZero {
					t.Errorf("%v divided by zero is %v, %v, %d", p, q, rest, e)
				}
			} else if e != api.OK || len(rest) >= len(r) || !slices.Equal(texts(combined(convolved(rats(q), rats(r)), rats(rest), 1)), p) {
				t.Errorf("%v divided by %v is %v, %v, %d", p, r, q, rest, e)
			}
		}
	}
}

// factors are monic polynomials that cannot be divided further, so that common divisors of products of them are known.
var factors = []string{"0 1", "-1 1", "1 1", "1/2 1", "-7/3 1", "123456789012345678/1000000007 1", "1 0 1", "2 0 1", "-2 0 1", "1 1 1", "-2 0 0 1"}

// assembled returns the product of powers of the factors.
func assembled(powers []int) []*big.Rat {
	out := []*big.Rat{big.NewRat(1, 1)}
	for i, power := range powers {
		for range power {
			out = rats(texts(convolved(out, rats(read(factors[i])))))
		}
	}
	return out
}

// P8.2
func TestGCD(t *testing.T) {
	source := rand.New(rand.NewSource(10))
	for range 400 {
		first, second, common := make([]int, len(factors)), make([]int, len(factors)), make([]int, len(factors))
		for range source.Intn(6) {
			i := source.Intn(len(factors))
			first[i]++
			second[(i+source.Intn(2)*source.Intn(len(factors)))%len(factors)]++
		}
		for i := range common {
			common[i] = min(first[i], second[i])
		}
		p := texts(convolved(assembled(first), []*big.Rat{big.NewRat(1+source.Int63n(9), -1-source.Int63n(9))}))
		r := texts(convolved(assembled(second), []*big.Rat{big.NewRat(-1-source.Int63n(99), 1+source.Int63n(9))}))
		if !Valid(p) || !Valid(r) {
			t.Fatal(p, r)
		}
		if got, e := GCD(p, r); e != api.OK || !slices.Equal(got, texts(assembled(common))) {
			t.Errorf("the greatest common divisor of %v and %v is %v instead of %v, %d", p, r, got, texts(assembled(common)), e)
		}
	}
	for _, c := range [][3]string{
		{"", "", ""}, {"", "3", "1"}, {"-1/2", "", "1"}, {"2", "4", "1"}, {"", "2 4", "1/2 1"}, {"-3 6", "", "-1/2 1"}, {"5", "1 2 3", "1"}, {"1 2 3", "-7/2", "1"}, {"1 2 3", "1 2 3", "1/3 2/3 1"}, {"1 2 3", "-2 -4 -6", "1/3 2/3 1"}, {"0 0 0 2", "0 0 3", "0 0 1"}, {"0 0 3", "0 0 0 2", "0 0 1"}, {"1 1", "2 1", "1"}, {"0 0 0 0 0 0 0 0 0 0 0 0 0 0 0 0 1", "0 5", "0 1"}, {"-1 0 0 0 0 0 0 0 0 0 0 0 0 0 0 0 1", "1 0 0 0 1", "1 0 0 0 1"},
	} {
		if got, e := GCD(read(c[0]), read(c[1])); e != api.OK || !slices.Equal(got, read(c[2])) {
			t.Errorf("the greatest common divisor of %s and %s is %v, %d", c[0], c[1], got, e)
		}
	}
}

// P8.5: it divides both, and everything that was multiplied into both divides it.
func TestGCDDivides(t *testing.T) {
	source := rand.New(rand.NewSource(11))
	all := polynomials(source, 8)
	for i, p := range all {
		for range 3 {
			r, shared := all[source.Intn(len(all))], all[(i*5+1)%len(all)]
			first, second := texts(convolved(p, shared)), texts(convolved(r, shared))
			got, e := GCD(first, second)
			turned, f := GCD(second, first)
			if e != api.OK || f != api.OK || !slices.Equal(got, turned) {
				t.Errorf("the greatest common divisor of %v and %v is %v, %d, or %v, %d", first, second, got, e, turned, f)
				continue
			}
			if len(first) == 0 && len(second) == 0 {
				if len(got) > 0 {
					t.Errorf("the greatest common divisor of nothing is %v", got)
				}
				continue
			}
			if got[len(got)-1] != "1" || !divides(got, first) || !divides(got, second) || !divides(texts(shared), got) {
				t.Errorf("the greatest common divisor of %v and %v is %v", first, second, got)
			}
		}
	}
}

func divides(r, p api.Poly) bool {
	_, rest, e := DivMod(p, r)
	return e == api.OK && len(rest) == 0
}

// P8.2: two polynomials of the greatest degree whose numbers are long.
func TestGCDOfLongOnes(t *testing.T) {
	source := rand.New(rand.NewSource(12))
	all := polynomials(source, api.MaxDegree)
	p, r := texts(all[len(all)-1]), texts(all[len(all)-5])
	if got, e := GCD(p, r); e != api.OK || !slices.Equal(got, api.Poly{"1"}) {
		t.Errorf("the greatest common divisor of %v and %v is %v, %d", p, r, got, e)
	}
}

// P8.2: what Euclid's algorithm goes on with is a multiple of the remainder, and has integers if both polynomials have.
func TestRemaindersStayWhole(t *testing.T) {
	source := rand.New(rand.NewSource(17))
	for _, degrees := range [][2]int{{3, 3}, {5, 4}, {16, 0}, {16, 7}, {16, 15}, {2, 5}} {
		long := polynomials(source, api.MaxDegree)
		p, r := poly(texts(long[4*degrees[0]+2])).primitive(), poly(texts(long[4*degrees[1]+4])).primitive()
		got := p.remainder(r)
		for _, c := range got {
			if !rat(c).IsInt() {
				t.Errorf("%v divided by %v leaves %s", p, r, c)
			}
		}
		if _, rest := p.divide(r); !slices.Equal(got.monic(), rest.monic()) {
			t.Errorf("%v divided by %v leaves no multiple of %v", p, r, got)
		}
	}
}
