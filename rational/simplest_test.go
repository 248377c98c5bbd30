package rational

import (
	"math/big"
	"math/rand"
	"strings"
	"testing"

	"garboard/api"
)

// P3.4: of all ranges between small numbers, by going through the denominators.
func TestSimplest(t *testing.T) {
	var numbers []*big.Rat
	for den := int64(1); den <= 7; den++ {
		for num := -3 * den; num <= 3*den; num++ {
			if x := big.NewRat(num, den); x.Denom().Int64() == den {
				numbers = append(numbers, x)
			}
		}
	}
	for _, a := range numbers {
		for _, b := range numbers {
			if a.Cmp(b) > 0 {
				continue
			}
			if x, e := Simplest(text(a), text(b)); e != api.OK || x != text(firstBetween(a, b)) {
				t.Errorf("the simplest number from %s to %s is %s, %d", text(a), text(b), x, e)
			}
		}
	}
}

// firstBetween returns the simplest number between numbers from -3 to 3.
func firstBetween(a, b *big.Rat) *big.Rat {
	for den := int64(1); ; den++ {
		for size := range 3*den + 1 {
			for _, x := range []*big.Rat{big.NewRat(size, den), big.NewRat(-size, den)} {
				if x.Cmp(a) >= 0 && x.Cmp(b) <= 0 {
					return x
				}
			}
		}
	}
}

// P3.4
func TestSimplestOfLongNumbers(t *testing.T) {
	power := "1" + strings.Repeat("0", 30)
	for _, c := range [][3]api.Rat{
		{"3/10", "2/5", "1/3"}, {"-2/5", "-3/10", "-1/3"}, {"2", "2", "2"}, {"7/3", "7/3", "7/3"}, {"-7/3", "-7/3", "-7/3"}, {"0", "0", "0"}, {"-5", "-3", "-3"}, {"3", "5", "3"}, {"5/2", "5", "3"}, {"-5", "-5/2", "-3"}, {"0", "1/7", "0"}, {"-1/7", "0", "0"}, {"1/7", "1/6", "1/6"}, {"1/7", "1", "1"},
		{"314159/100000", "3141593/1000000", "355/113"}, {api.Rat("1/" + power), api.Rat("2"), "1"}, {api.Rat("1/" + power), api.Rat("1/" + power[:30]), api.Rat("1/" + power[:30])}, {api.Rat(power), api.Rat(power + "0"), api.Rat(power)},
	} {
		a, e := Make(parts(c[0]))
		b, f := Make(parts(c[1]))
		if e != api.OK || f != api.OK {
			t.Fatal(c)
		}
		if order, _ := Compare(a, b); order > 0 {
			a, b = b, a
		}
		if x, e := Simplest(a, b); e != api.OK || x != c[2] {
			t.Errorf("the simplest number from %s to %s is %s, %d", a, b, x, e)
		}
	}
}

func parts(a api.Rat) (string, string) {
	num, den, isQuotient := strings.Cut(string(a), "/")
	if !isQuotient {
		den = "1"
	}
	return num, den
}

// P3.5: the simplest number lies between both, and no number with a lesser denominator does.
func TestSimplestHasTheLeastDenominator(t *testing.T) {
	source := rand.New(rand.NewSource(5))
	for range 2000 {
		a := toBig(t, randomNumber(source, 1+source.Intn(30)))
		width := big.NewRat(int64(source.Intn(1000)), 1)
		width.Mul(width, toBig(t, api.Rat("1/1"+strings.Repeat("0", source.Intn(60)))))
		b := new(big.Rat).Add(a, width)
		x, e := Simplest(text(a), text(b))
		if e != api.OK || !Valid(x) || toBig(t, x).Cmp(a) < 0 || toBig(t, x).Cmp(b) > 0 {
			t.Fatalf("the simplest number from %s to %s is %s, %d", text(a), text(b), x, e)
		}
		if left, right := parents(toBig(t, x)); toBig(t, x).IsInt() {
			checkWhole(t, a, b, toBig(t, x))
		} else if left.Cmp(a) >= 0 || right.Cmp(b) <= 0 {
			t.Errorf("%s is not the simplest number from %s to %s", x, text(a), text(b))
		}
	}
}

// checkWhole checks that an integer is the one between two numbers that is nearest to 0.
func checkWhole(t *testing.T, a, b, x *big.Rat) {
	t.Helper()
	nearer := new(big.Rat).Sub(x, big.NewRat(int64(x.Sign()), 1))
	if x.Sign() != 0 && nearer.Cmp(a) >= 0 && nearer.Cmp(b) <= 0 {
		t.Errorf("%s is from %s to %s, too", text(nearer), text(a), text(b))
	}
}

// parents returns the next numbers below and above a number that have lesser denominators; there are some if it is no integer.
func parents(x *big.Rat) (*big.Rat, *big.Rat) {
	num, den := x.Num(), x.Denom()
	if x.IsInt() {
		return x, x
	}
	leftDen := new(big.Int).ModInverse(num, den)
	leftNum := new(big.Int).Mul(num, leftDen)
	leftNum.Sub(leftNum, big.NewInt(1)).Quo(leftNum, den)
	right := new(big.Rat).SetFrac(new(big.Int).Sub(num, leftNum), new(big.Int).Sub(den, leftDen))
	return new(big.Rat).SetFrac(leftNum, leftDen), right
}
