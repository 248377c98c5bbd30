package integer

import (
	"math"
	"math/big"
	"math/rand"
	"strings"
	"testing"

	"garboard/api"
)

// none are strings that are no integers.
var none = []string{"", "-", "--1", "-0", "+1", "+0", "00", "-00", "01", "-01", "- 1", " 1", "1 ", "-1-", "1-", "1e3", "1.0", "-1/2", "\xff", "-\xff", "\u22121", "-" + strings.Repeat("9", 30) + "x"}

// samples returns integers of many sizes and all signs.
func samples() []string {
	out := []string{"0"}
	for _, size := range []string{"1", "2", "3", "7", "999999999", "1000000000", "1000000001", "999999999999999999", "1000000000000000000", "9223372036854775807", "9223372036854775808", "18446744073709551615", "18446744073709551616", "1" + strings.Repeat("0", 45), strings.Repeat("9", 45)} {
		out = append(out, size, "-"+size)
	}
	source := rand.New(rand.NewSource(1))
	for digits := 1; digits <= 120; digits += 1 + digits/3 {
		out = append(out, randomInteger(source, digits), randomInteger(source, digits))
	}
	return out
}

func randomInteger(source *rand.Rand, digits int) string {
	b := make([]byte, digits)
	for i := range b {
		b[i] = '0' + byte(source.Intn(10))
	}
	b[0] = '1' + byte(source.Intn(9))
	if source.Intn(2) == 0 {
		return string(b)
	}
	return "-" + string(b)
}

func toBig(t testing.TB, a string) *big.Int {
	t.Helper()
	n, ok := new(big.Int).SetString(a, 10)
	if !ok {
		t.Fatalf("%q is no integer", a)
	}
	return n
}

// P2.1
func TestValid(t *testing.T) {
	for _, a := range samples() {
		if !Valid(a) {
			t.Errorf("%q is valid", a)
		}
	}
	for _, a := range none {
		if Valid(a) {
			t.Errorf("%q is not valid", a)
		}
	}
	for c := range 256 {
		isDigit := c >= '0' && c <= '9'
		if a := string([]byte{byte(c)}); Valid(a) != isDigit {
			t.Errorf("Valid(%q) is %v", a, !isDigit)
		}
		if a := string([]byte{'-', byte(c)}); Valid(a) != (isDigit && c != '0') {
			t.Errorf("Valid(%q) is %v", a, Valid(a))
		}
	}
}

// P2.1
func TestSignAbsNeg(t *testing.T) {
	for _, a := range samples() {
		n := toBig(t, a)
		if s, e := Sign(a); e != api.OK || s != n.Sign() {
			t.Errorf("the sign of %s is %d, %d", a, s, e)
		}
		if s, e := Abs(a); e != api.OK || s != new(big.Int).Abs(n).String() {
			t.Errorf("the absolute value of %s is %s, %d", a, s, e)
		}
		if s, e := Neg(a); e != api.OK || s != new(big.Int).Neg(n).String() {
			t.Errorf("the opposite of %s is %s, %d", a, s, e)
		}
	}
}

// P2.1
func TestFrom(t *testing.T) {
	for _, n := range []int{0, 1, -1, 9, 10, -10, 1234567890, math.MaxInt, math.MinInt, math.MinInt + 1} {
		if s := From(n); s != big.NewInt(int64(n)).String() || !Valid(s) {
			t.Errorf("From(%d) is %s", n, s)
		}
	}
}

// P2.1, P2.4: the order is that of differences.
func TestCompare(t *testing.T) {
	for _, a := range samples() {
		for _, b := range samples() {
			order, e := Compare(a, b)
			if want := toBig(t, a).Cmp(toBig(t, b)); e != api.OK || order != want {
				t.Errorf("Compare(%s, %s) is %d, %d", a, b, order, e)
			}
			difference, _ := Sub(a, b)
			if sign, _ := Sign(difference); sign != order {
				t.Errorf("the sign of %s - %s is %d, the order %d", a, b, sign, order)
			}
		}
	}
}

// P2.2
func TestAddSubMul(t *testing.T) {
	for _, a := range samples() {
		for _, b := range samples() {
			x, y := toBig(t, a), toBig(t, b)
			if s, e := Add(a, b); e != api.OK || s != new(big.Int).Add(x, y).String() {
				t.Errorf("%s + %s is %s, %d", a, b, s, e)
			}
			if s, e := Sub(a, b); e != api.OK || s != new(big.Int).Sub(x, y).String() {
				t.Errorf("%s - %s is %s, %d", a, b, s, e)
			}
			if s, e := Mul(a, b); e != api.OK || s != new(big.Int).Mul(x, y).String() {
				t.Errorf("%s * %s is %s, %d", a, b, s, e)
			}
		}
	}
}

// P2.2, P2.4: quotient and remainder are those that there are alone.
func TestDivMod(t *testing.T) {
	for _, a := range samples() {
		for _, b := range samples() {
			if b == "0" {
				continue
			}
			quotient, rest, e := DivMod(a, b)
			q, r := new(big.Int).DivMod(toBig(t, a), toBig(t, b), new(big.Int))
			if e != api.OK || quotient != q.String() || rest != r.String() {
				t.Errorf("%s / %s is %s, %s, %d", a, b, quotient, rest, e)
			}
		}
	}
}

// P2.3: of all pairs of small numbers, and of the samples with their multiples.
func TestBezout(t *testing.T) {
	for a := -40; a <= 40; a++ {
		for b := -40; b <= 40; b++ {
			checkBezout(t, From(a), From(b))
		}
	}
	for _, a := range samples() {
		for _, b := range samples() {
			checkBezout(t, a, b)
			checkBezout(t, product(a, b), a)
			checkBezout(t, a, product(a, b))
			checkBezout(t, product("-360", a), product("84", b))
		}
	}
}

// checkBezout checks the divisor, the combination, and that x is the one that is meant.
func checkBezout(t *testing.T, a, b string) {
	t.Helper()
	common, x, y, e := Bezout(a, b)
	m, n := toBig(t, a), toBig(t, b)
	g := new(big.Int).GCD(nil, nil, new(big.Int).Abs(m), new(big.Int).Abs(n))
	if e != api.OK || common != g.String() {
		t.Fatalf("the divisor of %s and %s is %s, %d", a, b, common, e)
	}
	if combined := sum(product(a, x), product(b, y)); combined != common {
		t.Errorf("%s * %s + %s * %s is %s", a, x, b, y, combined)
	}
	if n.Sign() == 0 {
		if x != From(m.Sign()) || y != "0" {
			t.Errorf("%s and 0: x is %s, y is %s", a, x, y)
		}
		return
	}
	share := new(big.Int).Quo(new(big.Int).Abs(n), g)
	if i := toBig(t, x); i.Sign() < 0 || i.Cmp(share) >= 0 {
		t.Errorf("%s and %s: x is %s", a, b, x)
	}
}

// P2.4
func TestIntegersAreARing(t *testing.T) {
	source := rand.New(rand.NewSource(3))
	for range 500 {
		a, b, c := randomInteger(source, 1+source.Intn(40)), randomInteger(source, 1+source.Intn(40)), randomInteger(source, 1+source.Intn(40))
		same(t, "a + b = b + a", sum(a, b), sum(b, a))
		same(t, "a b = b a", product(a, b), product(b, a))
		same(t, "(a + b) + c = a + (b + c)", sum(sum(a, b), c), sum(a, sum(b, c)))
		same(t, "(a b) c = a (b c)", product(product(a, b), c), product(a, product(b, c)))
		same(t, "a (b + c) = a b + a c", product(a, sum(b, c)), sum(product(a, b), product(a, c)))
		opposite, _ := Neg(a)
		same(t, "a + (-a) = 0", sum(a, opposite), "0")
		same(t, "a + 0 = a", sum(a, "0"), a)
		same(t, "a 1 = a", product(a, "1"), a)
		same(t, "a 0 = 0", product(a, "0"), "0")
	}
}

func sum(a, b string) string {
	s, _ := Add(a, b)
	return s
}

func product(a, b string) string {
	p, _ := Mul(a, b)
	return p
}

func same(t *testing.T, what, a, b string) {
	t.Helper()
	if a != b || a == "" {
		t.Errorf("%s: %s and %s", what, a, b)
	}
}

// The chapter's examples.
func TestExamples(t *testing.T) {
	for _, c := range [][4]string{{"-7", "2", "-4", "1"}, {"-7", "-2", "4", "1"}} {
		quotient, rest, _ := DivMod(c[0], c[1])
		same(t, "quotient", quotient, c[2])
		same(t, "remainder", rest, c[3])
	}
	common, x, y, _ := Bezout("12", "-18")
	same(t, "divisor", common, "6")
	same(t, "x", x, "2")
	same(t, "y", y, "1")
}
