package angle

import (
	"math"
	"math/big"
	"slices"
	"testing"

	"garboard/api"
)

// circumference are the first digits of pi, and the same with the last digit one more.
const (
	circumference      = "3.14159265358979323846264338327950288419716939937510"
	circumferenceAbove = "3.14159265358979323846264338327950288419716939937511"
)

// bounds are the ends of an interval.
type bounds struct{ lo, hi *big.Rat }

func (b bounds) interval() api.Interval { return api.Interval{Lo: text(b.lo), Hi: text(b.hi)} }

func hull(l ...*big.Rat) bounds {
	compare := func(x, y *big.Rat) int { return x.Cmp(y) }
	return bounds{slices.MinFunc(l, compare), slices.MaxFunc(l, compare)}
}

// minus returns the differences.
func (b bounds) minus(c bounds) bounds {
	return bounds{difference(b.lo, c.hi), difference(b.hi, c.lo)}
}

// times returns the products with a number.
func (b bounds) times(x *big.Rat) bounds { return hull(product(b.lo, x), product(b.hi, x)) }

// sumOf returns the sum of the first terms of the series.
func sumOf(x *big.Rat, count int) *big.Rat {
	total, power := new(big.Rat), x
	for i := range count {
		part := quotient(power, whole(int64(2*i+1)))
		if i%2 == 1 {
			part.Neg(part)
		}
		total = sum(total, part)
		power = product(power, product(x, x))
	}
	return total
}

func piOf(n int) bounds {
	fifth, little := arctangentOf(big.NewRat(1, 5), n), arctangentOf(big.NewRat(1, 239), n)
	return fifth.times(whole(16)).minus(little.times(whole(4)))
}

func arctangentOf(x *big.Rat, n int) bounds {
	half := big.NewRat(1, 2)
	switch {
	case x.Cmp(half) > 0:
		return piOf(n).times(big.NewRat(1, 4)).minus(arctangentOf(quotient(difference(whole(1), x), sum(whole(1), x)), n))
	case x.Cmp(new(big.Rat).Neg(half)) < 0:
		return arctangentOf(new(big.Rat).Neg(x), n).times(whole(-1))
	}
	return hull(sumOf(x, n), sumOf(x, n+1))
}

func degreesOf(x *big.Rat, n int) bounds {
	size, pi := arctangentOf(x, n).times(whole(360)), piOf(n)
	return hull(quotient(size.lo, pi.lo), quotient(size.lo, pi.hi), quotient(size.hi, pi.lo), quotient(size.hi, pi.hi))
}

func findOf(d *big.Rat, n, k int) bounds {
	found := bounds{whole(-1), whole(1)}
	for range k {
		middle := quotient(sum(found.lo, found.hi), whole(2))
		switch size := degreesOf(middle, n); {
		case size.hi.Cmp(d) <= 0:
			found.lo = middle
		case size.lo.Cmp(d) > 0:
			found.hi = middle
		default:
			return found
		}
	}
	return found
}

// P6.2
func TestPi(t *testing.T) {
	for n := 1; n <= mostTerms; n++ {
		a, e := Pi(n)
		if e != api.OK || a != piOf(n).interval() {
			t.Errorf("pi with %d terms is %v, %d", n, a, e)
		}
		if rat(a.Lo).Cmp(rat(circumference)) > 0 || rat(a.Hi).Cmp(rat(circumferenceAbove)) < 0 {
			t.Errorf("pi is not in %v", a)
		}
	}
}

// P6.2
func TestArctangent(t *testing.T) {
	for _, x := range tangents() {
		for _, n := range []int{1, 2, 3, 8, 23, 24} {
			if a, e := Arctangent(text(x), n); e != api.OK || a != arctangentOf(x, n).interval() {
				t.Errorf("the arctangent of %s with %d terms is %v, %d", text(x), n, a, e)
			}
		}
	}
	for _, c := range []struct {
		x api.Rat
		a api.Interval
	}{{"0", api.Interval{Lo: "0", Hi: "0"}}, {"1/2", api.Interval{Lo: "11/24", Hi: "1/2"}}, {"-1/2", api.Interval{Lo: "-1/2", Hi: "-11/24"}}, {"1/3", api.Interval{Lo: "26/81", Hi: "1/3"}}} {
		if a, e := Arctangent(c.x, 1); e != api.OK || a != c.a {
			t.Errorf("the arctangent of %s is %v, %d", c.x, a, e)
		}
	}
}

// P6.2
func TestDegrees(t *testing.T) {
	for _, x := range tangents() {
		for _, n := range []int{1, 2, 5, 24} {
			if a, e := Degrees(text(x), n); e != api.OK || a != degreesOf(x, n).interval() {
				t.Errorf("%s with %d terms has the degrees %v, %d", text(x), n, a, e)
			}
		}
		near, _ := x.Float64()
		size := math.Atan(near) * 360 / math.Pi
		a, _ := Degrees(text(x), mostTerms)
		lo, _ := rat(a.Lo).Float64()
		hi, _ := rat(a.Hi).Float64()
		if math.Abs(lo-size) > 1e-12 || math.Abs(hi-size) > 1e-12 {
			t.Errorf("%s has the degrees %v instead of %v", text(x), a, size)
		}
	}
}

// P6.4: more terms give enclosures within.
func TestMoreTerms(t *testing.T) {
	checkMoreTerms(t, "pi", Pi)
	for _, x := range tangents() {
		checkMoreTerms(t, text(x), func(n int) (api.Interval, api.Errno) { return Arctangent(text(x), n) })
		checkMoreTerms(t, text(x), func(n int) (api.Interval, api.Errno) { return Degrees(text(x), n) })
	}
}

func checkMoreTerms(t *testing.T, what api.Rat, f func(n int) (api.Interval, api.Errno)) {
	t.Helper()
	for _, n := range []int{1, 2, 3, 10, mostTerms - 1} {
		a, _ := f(n)
		b, e := f(n + 1)
		if e != api.OK || rat(b.Lo).Cmp(rat(a.Lo)) < 0 || rat(b.Hi).Cmp(rat(a.Hi)) > 0 {
			t.Errorf("%s: %v with %d terms is not within %v", what, b, n+1, a)
		}
	}
}

// P6.4: a greater half tangent has a greater angle. Enclosures with all terms are narrow enough to show this for those that differ by some 10^-12.
func TestGreaterAngles(t *testing.T) {
	last, lastSize := whole(-2), api.Interval{Lo: "-91", Hi: "-91"}
	for _, x := range tangents() {
		if difference(x, last).Cmp(big.NewRat(1, 10000000000000)) < 0 {
			continue
		}
		size, _ := Degrees(text(x), mostTerms)
		if rat(lastSize.Hi).Cmp(rat(size.Lo)) >= 0 {
			t.Errorf("%s has the degrees %v, %s has %v", text(x), size, text(last), lastSize)
		}
		last, lastSize = x, size
	}
}

// P6.3
func TestFind(t *testing.T) {
	for _, d := range []api.Rat{"-90", "-60", "-271/8", "-1/1000", "0", "1/7", "30", "45", "89", "90", "53130102354155978703/1000000000000000000"} {
		for _, n := range []int{1, 2, 5, 24} {
			for _, k := range []int{0, 1, 2, 7, 24} {
				a, e := Find(d, n, k)
				if e != api.OK || a != findOf(rat(d), n, k).interval() {
					t.Errorf("the bracket of %s with %d terms after %d halvings is %v, %d", d, n, k, a, e)
				}
				checkBracket(t, d, n, a)
			}
		}
	}
}

// checkBracket checks that an angle is in its bracket (P6.4).
func checkBracket(t *testing.T, d api.Rat, n int, a api.Interval) {
	t.Helper()
	below, _ := Degrees(a.Lo, n)
	above, _ := Degrees(a.Hi, n)
	if a.Lo != "-1" && rat(below.Hi).Cmp(rat(d)) > 0 || a.Hi != "1" && rat(above.Lo).Cmp(rat(d)) < 0 {
		t.Errorf("%s degrees are not in the bracket %v", d, a)
	}
}

// P6.3: the middle becomes the lower end if the upper end of its enclosure is the angle itself, but halving ends if the lower end is.
func TestFindTheEndsOfAnEnclosure(t *testing.T) {
	for _, n := range []int{1, 3, 24} {
		size, _ := Degrees("1/2", n)
		inside := text(quotient(sum(rat(size.Lo), rat(size.Hi)), whole(2)))
		for _, c := range []struct {
			d api.Rat
			a api.Interval
		}{{size.Hi, api.Interval{Lo: "1/2", Hi: "1"}}, {size.Lo, api.Interval{Lo: "0", Hi: "1"}}, {inside, api.Interval{Lo: "0", Hi: "1"}}} {
			if a, e := Find(c.d, n, 2); e != api.OK || a != c.a {
				t.Errorf("with %d terms the bracket of %s is %v, %d", n, c.d, a, e)
			}
		}
		below := text(difference(rat(size.Lo), big.NewRat(1, 1000000000)))
		if a, e := Find(below, n, 2); e != api.OK || a != (api.Interval{Lo: "0", Hi: "1/2"}) {
			t.Errorf("with %d terms the bracket of %s is %v, %d", n, below, a, e)
		}
	}
}

// P6.3: as long as it is sure, a bracket becomes half as wide each time.
func TestFindIsNarrow(t *testing.T) {
	for k := range api.MaxHalvings + 1 {
		a, e := Find("100/3", mostTerms, k)
		width := difference(rat(a.Hi), rat(a.Lo))
		if e != api.OK || width.Cmp(big.NewRat(2, 1<<k)) != 0 {
			t.Errorf("after %d halvings the bracket is %v, %d", k, a, e)
		}
	}
}
