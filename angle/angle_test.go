package angle

import (
	"math/big"
	"slices"
	"testing"

	"garboard/api"
)

// long is a half tangent with many digits, a little less than 1/3.
const long = "33333333333333333333333333333333/100000000000000000000000000000000"

// tangents returns half tangents in ascending order: small ones, long ones, and those beside the places where something else begins.
func tangents() []*big.Rat {
	sizes := []*big.Rat{rat(long), rat("1/1000000000000000000000"), rat("499999999999/1000000000000"), rat("500000000001/1000000000000"), rat("999999999999/1000000000000"), rat("5592405/8388608")}
	for den := int64(1); den <= 7; den++ {
		for num := int64(1); num <= den; num++ {
			sizes = append(sizes, big.NewRat(num, den))
		}
	}
	out := []*big.Rat{new(big.Rat)}
	for _, x := range sizes {
		out = append(out, x, new(big.Rat).Neg(x))
	}
	compare := func(x, y *big.Rat) int { return x.Cmp(y) }
	slices.SortFunc(out, compare)
	return slices.CompactFunc(out, func(x, y *big.Rat) bool { return x.Cmp(y) == 0 })
}

// rat needs a number.
func rat[S ~string](text S) *big.Rat {
	x, ok := new(big.Rat).SetString(string(text))
	if !ok {
		panic("no number: " + string(text))
	}
	return x
}

// text returns the canonical text of a number.
func text(x *big.Rat) api.Rat { return api.Rat(x.RatString()) }

func sum(x, y *big.Rat) *big.Rat        { return new(big.Rat).Add(x, y) }
func difference(x, y *big.Rat) *big.Rat { return new(big.Rat).Sub(x, y) }
func product(x, y *big.Rat) *big.Rat    { return new(big.Rat).Mul(x, y) }
func quotient(x, y *big.Rat) *big.Rat   { return new(big.Rat).Quo(x, y) }
func whole(n int64) *big.Rat            { return big.NewRat(n, 1) }

// P6.1
func TestValid(t *testing.T) {
	for _, x := range tangents() {
		if !Valid(text(x)) {
			t.Errorf("%s is a half tangent", text(x))
		}
	}
	for _, x := range slices.Concat(none, outside) {
		if Valid(x) {
			t.Errorf("%s is no half tangent", x)
		}
	}
}

// P6.1
func TestCosineAndSine(t *testing.T) {
	one := whole(1)
	for _, x := range tangents() {
		square := product(x, x)
		cosine, e := Cosine(text(x))
		if e != api.OK || cosine != text(quotient(difference(one, square), sum(one, square))) {
			t.Errorf("the cosine of %s is %s, %d", text(x), cosine, e)
		}
		sine, e := Sine(text(x))
		if e != api.OK || sine != text(quotient(product(whole(2), x), sum(one, square))) {
			t.Errorf("the sine of %s is %s, %d", text(x), sine, e)
		}
		// P6.4
		if sum(product(rat(cosine), rat(cosine)), product(rat(sine), rat(sine))).Cmp(one) != 0 {
			t.Errorf("the squares of %s and %s do not add up to 1", cosine, sine)
		}
	}
	for _, c := range [][3]api.Rat{{"-1", "0", "-1"}, {"0", "1", "0"}, {"1", "0", "1"}, {"1/2", "3/5", "4/5"}, {"-1/3", "4/5", "-3/5"}} {
		cosine, _ := Cosine(c[0])
		sine, _ := Sine(c[0])
		if cosine != c[1] || sine != c[2] {
			t.Errorf("%s has the cosine %s and the sine %s", c[0], cosine, sine)
		}
	}
}

// P6.1
func TestSum(t *testing.T) {
	for _, x := range tangents() {
		for _, y := range tangents() {
			rest := difference(whole(1), product(x, y))
			want, wantError := api.Rat(""), api.ErrLimit
			if total := sum(x, y); rest.Sign() > 0 && new(big.Rat).Abs(total).Cmp(rest) <= 0 {
				want, wantError = text(quotient(total, rest)), api.OK
			}
			found, e := Sum(text(x), text(y))
			if found != want || e != wantError {
				t.Errorf("the sum of %s and %s is %q, %d", text(x), text(y), found, e)
			}
		}
	}
	for _, c := range []struct {
		s, t, sum api.Rat
		e         api.Errno
	}{
		{"1", "-1", "0", api.OK}, {"1", "0", "1", api.OK}, {"-1", "0", "-1", api.OK}, {"1/3", "1/2", "1", api.OK}, {"-1/3", "-1/2", "-1", api.OK}, {"1/3", "1/3", "3/4", api.OK}, {"1", "-1/2", "1/3", api.OK},
		{"1", "1", "", api.ErrLimit}, {"-1", "-1", "", api.ErrLimit}, {"1/2", "1/2", "", api.ErrLimit}, {"-1/2", "-1/2", "", api.ErrLimit}, {"1", "1/1000000000000000000000", "", api.ErrLimit}, {"1/3", "500000000001/1000000000000", "", api.ErrLimit},
	} {
		if found, e := Sum(c.s, c.t); found != c.sum || e != c.e {
			t.Errorf("the sum of %s and %s is %q, %d", c.s, c.t, found, e)
		}
	}
}

// P6.4: sums commute, and follow the theorems of addition.
func TestTheoremsOfAddition(t *testing.T) {
	part := func(f func(api.Rat) (api.Rat, api.Errno), x api.Rat) *big.Rat {
		y, _ := f(x)
		return rat(y)
	}
	found := 0
	for _, x := range tangents() {
		for _, y := range tangents() {
			s, u := text(x), text(y)
			both, e := Sum(s, u)
			turned, f := Sum(u, s)
			if both != turned || e != f {
				t.Errorf("the sums of %s and %s are %s and %s", s, u, both, turned)
			}
			if e != api.OK {
				continue
			}
			found++
			cosine := difference(product(part(Cosine, s), part(Cosine, u)), product(part(Sine, s), part(Sine, u)))
			sine := sum(product(part(Sine, s), part(Cosine, u)), product(part(Cosine, s), part(Sine, u)))
			if part(Cosine, both).Cmp(cosine) != 0 || part(Sine, both).Cmp(sine) != 0 {
				t.Errorf("the sum of %s and %s is %s", s, u, both)
			}
		}
	}
	if found < 1000 {
		t.Errorf("there are only %d sums", found)
	}
}

// The chapter's examples.
func TestExamples(t *testing.T) {
	for i, c := range []struct {
		of   func() (api.Rat, api.Errno)
		want api.Rat
		e    api.Errno
	}{
		{func() (api.Rat, api.Errno) { return Cosine("1/2") }, "3/5", api.OK},
		{func() (api.Rat, api.Errno) { return Sine("1/2") }, "4/5", api.OK},
		{func() (api.Rat, api.Errno) { return Sum("1/2", "1/2") }, "", api.ErrLimit},
		{func() (api.Rat, api.Errno) { return Sum("1/3", "1/3") }, "3/4", api.OK},
	} {
		if found, e := c.of(); found != c.want || e != c.e {
			t.Errorf("the example %d is %q, %d", i, found, e)
		}
	}
	if a, e := Arctangent("1/2", 1); e != api.OK || a != (api.Interval{Lo: "11/24", Hi: "1/2"}) {
		t.Error(a, e)
	}
	for n := 1; n <= mostTerms; n++ {
		if a, e := Degrees("1", n); e != api.OK || rat(a.Lo).Cmp(whole(90)) > 0 || rat(a.Hi).Cmp(whole(90)) < 0 {
			t.Error(n, a, e)
		}
	}
	// DOC, section Examples
	if a, e := Find("30", 24, 4); e != api.OK || a != (api.Interval{Lo: "1/4", Hi: "3/8"}) {
		t.Error(a, e)
	}
}
