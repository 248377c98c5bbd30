package natural

import (
	"math/big"
	"math/rand"
	"strings"
	"testing"

	"garboard/api"
)

// none are strings that are no natural numbers.
var none = []string{"", " ", "00", "01", "007", "-1", "-0", "+1", "1 ", " 1", "1e3", "1.0", "0x1", "1_0", "a", "\x00", "\xff", "1\xff", "٣", "/", ":", "12:", "1/2", "000000000000000000000", "0" + strings.Repeat("9", 30), strings.Repeat("9", 30) + "x"}

// samples returns natural numbers of many sizes, with those at which words end, and such with many digits 0 and 9.
func samples() []string {
	out := []string{"0", "1", "2", "3", "9", "10"}
	for _, digits := range []int{8, 9, 10, 17, 18, 19, 20, 27, 28, 36, 45, 54, 90} {
		power := "1" + strings.Repeat("0", digits)
		nines := strings.Repeat("9", digits)
		out = append(out, power, power[:digits]+"1", nines, nines[1:]+"8", "5"+power[1:])
	}
	source := rand.New(rand.NewSource(1))
	for digits := 1; digits <= 200; digits += 1 + digits/4 {
		out = append(out, randomNumber(source, digits), randomNumber(source, digits))
	}
	return append(out, "18446744073709551615", "18446744073709551616", "9999999999999999999", "340282366920938463463374607431768211456")
}

func randomNumber(source *rand.Rand, digits int) string {
	b := make([]byte, digits)
	for i := range b {
		b[i] = '0' + byte(source.Intn(10))
	}
	b[0] = '1' + byte(source.Intn(9))
	return string(b)
}

func toBig(t testing.TB, a string) *big.Int {
	t.Helper()
	n, ok := new(big.Int).SetString(a, 10)
	if !ok {
		t.Fatalf("%q is no number", a)
	}
	return n
}

// P1.1
func TestValid(t *testing.T) {
	for _, a := range samples() {
		if !Valid(a) {
			t.Errorf("%q is valid", a)
		}
	}
	for _, a := range none {
		if Valid(a) {
			t.Errorf("%q is not valid", a)
		}
	}
	for c := range 256 {
		isDigit := c >= '0' && c <= '9'
		if a := string([]byte{'1', byte(c)}); Valid(a) != isDigit {
			t.Errorf("Valid(%q) is %v", a, !isDigit)
		}
		if a := string([]byte{byte(c)}); Valid(a) != isDigit {
			t.Errorf("Valid(%q) is %v", a, !isDigit)
		}
	}
}

// P1.1
func TestCompare(t *testing.T) {
	for _, a := range samples() {
		for _, b := range samples() {
			order, e := Compare(a, b)
			if want := toBig(t, a).Cmp(toBig(t, b)); e != api.OK || order != want {
				t.Errorf("Compare(%s, %s) is %d, %d", a, b, order, e)
			}
		}
	}
}

// P1.2
func TestAddSubMul(t *testing.T) {
	for _, a := range samples() {
		for _, b := range samples() {
			x, y := toBig(t, a), toBig(t, b)
			sum, e := Add(a, b)
			if e != api.OK || sum != new(big.Int).Add(x, y).String() {
				t.Errorf("%s + %s is %s, %d", a, b, sum, e)
			}
			product, e := Mul(a, b)
			if e != api.OK || product != new(big.Int).Mul(x, y).String() {
				t.Errorf("%s * %s is %s, %d", a, b, product, e)
			}
			difference, e := Sub(a, b)
			want, wantError := new(big.Int).Sub(x, y).String(), api.OK
			if x.Cmp(y) < 0 {
				want, wantError = "", api.ErrRange
			}
			if e != wantError || difference != want {
				t.Errorf("%s - %s is %s, %d", a, b, difference, e)
			}
		}
	}
}

// P1.2: what is carried beyond the first digit of both numbers.
func TestAddCarries(t *testing.T) {
	for digits := 1; digits <= 100; digits++ {
		nines, power := strings.Repeat("9", digits), "1"+strings.Repeat("0", digits)
		for _, c := range [][3]string{{nines, "1", power}, {"1", nines, power}, {nines, nines, "1" + nines[1:] + "8"}} {
			if sum, e := Add(c[0], c[1]); e != api.OK || sum != c[2] {
				t.Errorf("%s + %s is %s, %d", c[0], c[1], sum, e)
			}
		}
	}
}

// P1.2
func TestDivModAndGCD(t *testing.T) {
	for _, a := range samples() {
		for _, b := range samples() {
			x, y := toBig(t, a), toBig(t, b)
			common, e := GCD(a, b)
			if e != api.OK || common != new(big.Int).GCD(nil, nil, x, y).String() {
				t.Errorf("the divisor of %s and %s is %s, %d", a, b, common, e)
			}
			if b == "0" {
				continue
			}
			quotient, rest, e := DivMod(a, b)
			q, r := new(big.Int).QuoRem(x, y, new(big.Int))
			if e != api.OK || quotient != q.String() || rest != r.String() {
				t.Errorf("%s / %s is %s, %s, %d", a, b, quotient, rest, e)
			}
		}
	}
}

// P1.2: a divisor that is common because it was multiplied in.
func TestGCDOfMultiples(t *testing.T) {
	source := rand.New(rand.NewSource(2))
	for range 300 {
		common := randomNumber(source, 1+source.Intn(60))
		a, _ := Mul(common, randomNumber(source, 1+source.Intn(60)))
		b, _ := Mul(common, randomNumber(source, 1+source.Intn(60)))
		want := new(big.Int).GCD(nil, nil, toBig(t, a), toBig(t, b)).String()
		if g, e := GCD(a, b); e != api.OK || g != want {
			t.Errorf("the divisor of %s and %s is %s, %d", a, b, g, e)
		}
	}
}

// P1.3
func TestPow(t *testing.T) {
	for _, a := range append(samples(), "2", "7", "1000000007") {
		for _, n := range []int{0, 1, 2, 3, 5, 31, 63, 64} {
			want := new(big.Int).Exp(toBig(t, a), big.NewInt(int64(n)), nil).String()
			if p, e := Pow(a, n); e != api.OK || p != want {
				t.Errorf("%s ^ %d is %s, %d", a, n, p, e)
			}
		}
	}
}

// P1.3: the numbers around squares are the edge cases.
func TestRoot(t *testing.T) {
	numbers := samples()
	for _, a := range samples() {
		square, _ := Mul(a, a)
		above, _ := Add(square, "1")
		numbers = append(numbers, square, above)
		if square != "0" {
			below, _ := Sub(square, "1")
			numbers = append(numbers, below)
		}
	}
	for n := range 1000 {
		numbers = append(numbers, big.NewInt(int64(n)).String())
	}
	for _, a := range numbers {
		if r, e := Root(a); e != api.OK || r != new(big.Int).Sqrt(toBig(t, a)).String() {
			t.Errorf("the root of %s is %s, %d", a, r, e)
		}
	}
}

// P1.4
func TestPropertiesOfSumsAndProducts(t *testing.T) {
	source := rand.New(rand.NewSource(3))
	for range 500 {
		a, b, c := randomNumber(source, 1+source.Intn(50)), randomNumber(source, 1+source.Intn(50)), randomNumber(source, 1+source.Intn(50))
		same(t, "a + b = b + a", sum(a, b), sum(b, a))
		same(t, "a b = b a", product(a, b), product(b, a))
		same(t, "(a + b) + c = a + (b + c)", sum(sum(a, b), c), sum(a, sum(b, c)))
		same(t, "(a b) c = a (b c)", product(product(a, b), c), product(a, product(b, c)))
		same(t, "a (b + c) = a b + a c", product(a, sum(b, c)), sum(product(a, b), product(a, c)))
		difference, _ := Sub(sum(a, b), b)
		same(t, "a + b - b = a", difference, a)
	}
}

// P1.4
func TestPropertiesOfDivisors(t *testing.T) {
	source := rand.New(rand.NewSource(4))
	for range 300 {
		d := randomNumber(source, 1+source.Intn(30))
		a, b := product(d, randomNumber(source, 1+source.Intn(40))), product(d, randomNumber(source, 1+source.Intn(40)))
		common, _ := GCD(a, b)
		for _, n := range []string{a, b} {
			_, rest, _ := DivMod(n, common)
			same(t, "the divisor divides", rest, "0")
		}
		_, rest, _ := DivMod(common, d)
		same(t, "what divides both divides the divisor", rest, "0")
	}
}

func sum(a, b string) string {
	s, _ := Add(a, b)
	return s
}

func product(a, b string) string {
	p, _ := Mul(a, b)
	return p
}

func same(t *testing.T, what, a, b string) {
	t.Helper()
	if a != b || a == "" {
		t.Errorf("%s: %s and %s", what, a, b)
	}
}

// The chapter's examples.
func TestExamples(t *testing.T) {
	power, _ := Pow("10", 20)
	same(t, "10^20 + 1", sum(power, "1"), "100000000000000000001")
	quotient, rest, _ := DivMod("1000000007", "10")
	same(t, "quotient", quotient, "100000000")
	same(t, "remainder", rest, "7")
	common, _ := GCD("84", "36")
	same(t, "divisor", common, "12")
	root, _ := Root("99")
	same(t, "root", root, "9")
}
