package root

import (
	"math/big"
	"math/rand"
	"slices"
	"strings"
	"testing"

	"garboard/api"
)

// denominators are some of those that enclosures may have, the least and the greatest among them.
var denominators = []int{1, 2, 3, 7, 10, 12, 1000, 999999999, 1000000000}

// squares returns numbers that are not negative: all small ones, those around squares, and long ones.
func squares() []*big.Rat {
	out := []*big.Rat{new(big.Rat)}
	for den := int64(1); den <= 9; den++ {
		for num := int64(1); num <= 30; num++ {
			out = append(out, big.NewRat(num, den))
		}
	}
	source := rand.New(rand.NewSource(1))
	for digits := 1; digits <= 60; digits += 1 + digits/4 {
		x := new(big.Rat).SetFrac(randomInt(source, digits), randomInt(source, 1+source.Intn(digits)))
		square := new(big.Rat).Mul(x, x)
		little := new(big.Rat).Inv(new(big.Rat).SetInt(randomInt(source, 3*digits)))
		little.Mul(little, square)
		out = append(out, x, square, new(big.Rat).Add(square, little), new(big.Rat).Sub(square, little))
	}
	return append(out, rat("1"+strings.Repeat("0", 40)), rat("1"+strings.Repeat("0", 41)), rat("1/1"+strings.Repeat("0", 40)), rat(strings.Repeat("9", 50)+"/4"))
}

func randomInt(source *rand.Rand, digits int) *big.Int {
	b := make([]byte, digits)
	for i := range b {
		b[i] = '0' + byte(source.Intn(10))
	}
	b[0] = '1' + byte(source.Intn(9))
	n, _ := new(big.Int).SetString(string(b), 10)
	return n
}

// rat needs a number.
func rat[S ~string](text S) *big.Rat {
	x, ok := new(big.Rat).SetString(string(text))
	if !ok {
		panic("no number: " + string(text))
	}
	return x
}

// text returns the canonical text of a number.
func text(x *big.Rat) api.Rat { return api.Rat(x.RatString()) }

// enclosed returns the enclosure of a root as it is defined.
func enclosed(x *big.Rat, n int) api.Interval {
	parts := big.NewInt(int64(n))
	times := new(big.Rat).Mul(x, new(big.Rat).SetInt(new(big.Int).Mul(parts, parts)))
	k := new(big.Int).Sqrt(new(big.Int).Quo(times.Num(), times.Denom()))
	lo := new(big.Rat).SetFrac(k, parts)
	if new(big.Rat).Mul(lo, lo).Cmp(x) == 0 {
		return api.Interval{Lo: text(lo), Hi: text(lo)}
	}
	return api.Interval{Lo: text(lo), Hi: text(new(big.Rat).SetFrac(k.Add(k, big.NewInt(1)), parts))}
}

// P5.1
func TestExact(t *testing.T) {
	for _, x := range squares() {
		top, bottom := new(big.Int).Sqrt(x.Num()), new(big.Int).Sqrt(x.Denom())
		root, want := new(big.Rat).SetFrac(top, bottom), api.Rat("")
		isSquare := new(big.Rat).Mul(root, root).Cmp(x) == 0
		if isSquare {
			want = text(root)
		}
		found, ok, e := Exact(text(x))
		if e != api.OK || ok != isSquare || found != want {
			t.Errorf("the root of %s is %q, %v, %d", text(x), found, ok, e)
		}
	}
	for _, c := range []struct {
		x, root api.Rat
		ok      bool
	}{{"0", "0", true}, {"1", "1", true}, {"4/9", "2/3", true}, {"1/4", "1/2", true}, {"2", "", false}, {"4/3", "", false}, {"3/4", "", false}, {"8", "", false}, {"1/2", "", false}, {"15", "", false}, {"17", "", false}} {
		if found, ok, e := Exact(c.x); found != c.root || ok != c.ok || e != api.OK {
			t.Errorf("the root of %s is %q, %v, %d", c.x, found, ok, e)
		}
	}
}

// P5.1
func TestSqrt(t *testing.T) {
	for _, x := range squares() {
		for _, n := range denominators {
			if a, e := Sqrt(text(x), n); e != api.OK || a != enclosed(x, n) {
				t.Errorf("the root of %s to %d is %v, %d", text(x), n, a, e)
			}
		}
	}
}

// P5.1: the lower end is that of the lower root, the upper end that of the upper one.
func TestOf(t *testing.T) {
	numbers := squares()
	slices.SortFunc(numbers, func(x, y *big.Rat) int { return x.Cmp(y) })
	for i, lo := range numbers {
		for _, more := range []int{0, 1, 2, 17, 200} {
			hi := numbers[min(i+more, len(numbers)-1)]
			for _, n := range []int{1, 12, 1000000000} {
				want := api.Interval{Lo: enclosed(lo, n).Lo, Hi: enclosed(hi, n).Hi}
				if a, e := Of(api.Interval{Lo: text(lo), Hi: text(hi)}, n); e != api.OK || a != want {
					t.Errorf("the roots from %s to %s to %d are %v, %d", text(lo), text(hi), n, a, e)
				}
			}
		}
	}
	for _, c := range []struct{ a, roots api.Interval }{
		{api.Interval{Lo: "4", Hi: "9"}, api.Interval{Lo: "2", Hi: "3"}}, {api.Interval{Lo: "0", Hi: "0"}, api.Interval{Lo: "0", Hi: "0"}}, {api.Interval{Lo: "2", Hi: "3"}, api.Interval{Lo: "7/5", Hi: "9/5"}}, {api.Interval{Lo: "2", Hi: "9"}, api.Interval{Lo: "7/5", Hi: "3"}}, {api.Interval{Lo: "0", Hi: "1/1000"}, api.Interval{Lo: "0", Hi: "1/10"}},
	} {
		if a, e := Of(c.a, 10); e != api.OK || a != c.roots {
			t.Errorf("the roots of %v are %v, %d", c.a, a, e)
		}
	}
}

// P5.3
func TestNorm(t *testing.T) {
	source := rand.New(rand.NewSource(2))
	numbers := squares()
	for size := 0; size <= api.MaxTerms; size += 1 + size/3 {
		var l []api.Rat
		sum := new(big.Rat)
		for range size {
			x := new(big.Rat).Set(numbers[source.Intn(len(numbers))])
			if source.Intn(2) == 0 {
				x.Neg(x)
			}
			l = append(l, text(x))
			sum.Add(sum, x.Mul(x, x))
		}
		kept := slices.Clone(l)
		for _, n := range []int{1, 10, 1000000000} {
			if a, e := Norm(l, n); e != api.OK || a != enclosed(sum, n) {
				t.Errorf("the norm of %d numbers to %d is %v, %d", size, n, a, e)
			}
		}
		if !slices.Equal(l, kept) {
			t.Errorf("%v has become %v", kept, l)
		}
	}
	for _, c := range []struct {
		l []api.Rat
		a api.Interval
	}{
		{nil, api.Interval{Lo: "0", Hi: "0"}}, {[]api.Rat{}, api.Interval{Lo: "0", Hi: "0"}}, {[]api.Rat{"-3", "4"}, api.Interval{Lo: "5", Hi: "5"}}, {[]api.Rat{"1/2", "-1/2"}, api.Interval{Lo: "7/10", Hi: "4/5"}}, {[]api.Rat{"-7/10"}, api.Interval{Lo: "7/10", Hi: "7/10"}}, {slices.Repeat([]api.Rat{"-1"}, api.MaxTerms), api.Interval{Lo: "8", Hi: "8"}},
	} {
		if a, e := Norm(c.l, 10); e != api.OK || a != c.a {
			t.Errorf("the norm of %v is %v, %d", c.l, a, e)
		}
	}
}

// P5.4: the root is in its enclosure, which is at most 1/n wide, and is one number exactly if this is the root; multiples of a denominator give enclosures within.
func TestEnclosures(t *testing.T) {
	for _, x := range squares() {
		exact, isRational, _ := Exact(text(x))
		for _, n := range []int{1, 2, 7, 1000} {
			a, _ := Sqrt(text(x), n)
			lo, hi := rat(a.Lo), rat(a.Hi)
			if lo.Sign() < 0 || new(big.Rat).Mul(lo, lo).Cmp(x) > 0 || new(big.Rat).Mul(hi, hi).Cmp(x) < 0 {
				t.Errorf("the root of %s is not in %v", text(x), a)
			}
			if new(big.Rat).Sub(hi, lo).Cmp(big.NewRat(1, int64(n))) > 0 {
				t.Errorf("%v is wider than 1/%d", a, n)
			}
			hasDenominator := isRational && new(big.Rat).Mul(rat(exact), big.NewRat(int64(n), 1)).IsInt()
			if (a.Lo == a.Hi) != hasDenominator || hasDenominator && a.Lo != exact {
				t.Errorf("the root of %s to %d is %v, and %q exactly", text(x), n, a, exact)
			}
			for _, factor := range []int{2, 3, 1000} {
				finer, _ := Sqrt(text(x), n*factor)
				if rat(finer.Lo).Cmp(lo) < 0 || rat(finer.Hi).Cmp(hi) > 0 {
					t.Errorf("%v is not within %v", finer, a)
				}
			}
		}
	}
}

// P5.1: of all small integers, and of those around long squares.
func TestWholeRoot(t *testing.T) {
	check := func(x *big.Int) {
		t.Helper()
		if found := wholeRoot(api.Rat(x.String())); string(found) != new(big.Int).Sqrt(x).String() {
			t.Errorf("the root of %s is %s", x, found)
		}
	}
	for n := range int64(20000) {
		check(big.NewInt(n))
	}
	source := rand.New(rand.NewSource(3))
	one := big.NewInt(1)
	for digits := 1; digits <= 120; digits++ {
		nines, _ := new(big.Int).SetString(strings.Repeat("9", digits), 10)
		for _, root := range []*big.Int{randomInt(source, digits), nines, new(big.Int).Add(nines, one)} {
			square := new(big.Int).Mul(root, root)
			check(new(big.Int).Sub(square, one))
			check(square)
			check(new(big.Int).Add(square, one))
			check(root)
		}
	}
}

// The chapter's examples.
func TestExamples(t *testing.T) {
	if a, e := Sqrt("2", 10); e != api.OK || a != (api.Interval{Lo: "7/5", Hi: "3/2"}) {
		t.Error(a, e)
	}
	if a, e := Sqrt("9/4", 10); e != api.OK || a != (api.Interval{Lo: "3/2", Hi: "3/2"}) {
		t.Error(a, e)
	}
	if s, e := Sign("3", "-2", "2"); e != api.OK || s != 1 {
		t.Error(s, e)
	}
	if s, e := Compare("2", "3", "3", "2"); e != api.OK || s != -1 {
		t.Error(s, e)
	}
}
