package rational

import (
	"cmp"
	"math/big"
	"math/rand"
	"strings"
	"testing"

	"garboard/api"
)

// none are strings that are no numbers: those that have another form, and quotients that are not in lowest terms.
var none = []api.Rat{
	"", "-", "/", "-/", "+1", "-0", "00", "01", "-01", " 1", "1 ", "1.0", "0.5", "1e3", "\xff", "½", "1/2\xff",
	"1/", "/2", "1/0", "1/1", "-1/1", "0/1", "0/2", "-0/2", "0/0", "1/-2", "-1/-2", "1/+2", "1/02", "01/2", "+1/2", "1 /2", "1/ 2", " 1/2", "1/2 ", "1//2", "1/2/3", "1/2/", "-/2", "1/-", "--1/2",
	"2/4", "-2/4", "6/3", "3/3", "4/2", "999999998/999999996", "1000000008000000007/1000000007", "-1000000007/1000000008000000007",
	"123456789012345678901234567890/246913578024691357802469135780", "246913578024691357802469135780/123456789012345678901234567890", "-100000000000000000000/30000000000000000000000", "0/12345678901234567890123", "5/12345678901234567890",
	"12345678901234567890/1", "1/012345678901234567890", "x12345678901234567890/7", "7/12345678901234567890x", "123456789012345678901x",
}

// samples returns numbers of many sizes, with both signs.
func samples() []api.Rat {
	sizes := []string{
		"1", "2", "3", "10", "1/2", "1/3", "2/3", "3/2", "5/2", "7/10", "1/10", "12/35", "35/12", "1/1000000007",
		"99999999", "999999999", "1000000000", "1000000001", "999999999/1000000000", "1000000000/999999999", "1/999999999", "999999998/999999999", "99999999/99999998",
		"999999999999999999", "1000000000000000000", "9223372036854775807", "9223372036854775808", "18446744073709551616", "1/999999999999999999", "1/9223372036854775808", "999999999999999998/999999999999999999", "1000000000000000001/1000000000000000000",
		"1/1" + strings.Repeat("0", 40), "1" + strings.Repeat("0", 40) + "/3", strings.Repeat("9", 50),
	}
	out := []api.Rat{"0"}
	for _, size := range sizes {
		out = append(out, api.Rat(size), api.Rat("-"+size))
	}
	source := rand.New(rand.NewSource(1))
	for digits := 1; digits <= 90; digits += 1 + digits/3 {
		out = append(out, randomNumber(source, digits), randomNumber(source, digits))
	}
	return out
}

// randomNumber returns a number whose parts, before they are reduced, have as many digits as it is said, and some in common.
func randomNumber(source *rand.Rand, digits int) api.Rat {
	shared := randomInt(source, 1+source.Intn(digits))
	num := new(big.Int).Mul(shared, randomInt(source, 1+source.Intn(digits)))
	den := new(big.Int).Mul(shared, randomInt(source, 1+source.Intn(digits)))
	if source.Intn(2) == 0 {
		num.Neg(num)
	}
	return text(new(big.Rat).SetFrac(num, den))
}

func randomInt(source *rand.Rand, digits int) *big.Int {
	b := make([]byte, digits)
	for i := range b {
		b[i] = '0' + byte(source.Intn(10))
	}
	b[0] = '1' + byte(source.Intn(9))
	n, _ := new(big.Int).SetString(string(b), 10)
	return n
}

// text returns the canonical text of a number.
func text(x *big.Rat) api.Rat { return api.Rat(x.RatString()) }

func toBig(t testing.TB, a api.Rat) *big.Rat {
	t.Helper()
	x, ok := new(big.Rat).SetString(string(a))
	if !ok {
		t.Fatalf("%q is no number", a)
	}
	return x
}

// P3.1
func TestValid(t *testing.T) {
	for _, a := range samples() {
		if !Valid(a) {
			t.Errorf("%q is valid", a)
		}
	}
	for _, a := range none {
		if Valid(a) {
			t.Errorf("%q is not valid", a)
		}
	}
}

// P3.1: of all small quotients those in lowest terms are valid.
func TestValidSmallQuotients(t *testing.T) {
	for num := int64(-60); num <= 60; num++ {
		for den := int64(-2); den <= 60; den++ {
			a := api.Rat(big.NewInt(num).String() + "/" + big.NewInt(den).String())
			isLowest := den > 1 && text(big.NewRat(num, max(den, 1))) == a
			if Valid(a) != isLowest {
				t.Errorf("Valid(%q) is %v", a, !isLowest)
			}
		}
	}
}

// P3.1
func TestMake(t *testing.T) {
	check := func(num, den *big.Int) {
		t.Helper()
		if a, e := Make(num.String(), den.String()); e != api.OK || a != text(new(big.Rat).SetFrac(num, den)) {
			t.Errorf("%s / %s is %s, %d", num, den, a, e)
		}
	}
	for num := int64(-40); num <= 40; num++ {
		for den := int64(-40); den <= 40; den++ {
			if den != 0 {
				check(big.NewInt(num), big.NewInt(den))
			}
		}
	}
	for _, a := range samples() {
		for _, b := range samples() {
			shared, den := toBig(t, b).Num(), toBig(t, a).Denom()
			if shared.Sign() != 0 {
				check(new(big.Int).Mul(toBig(t, a).Num(), shared), new(big.Int).Mul(den, shared))
			}
		}
	}
}

// P3.1
func TestParts(t *testing.T) {
	for _, a := range samples() {
		x := toBig(t, a)
		if num, den, e := Parts(a); e != api.OK || num != x.Num().String() || den != x.Denom().String() {
			t.Errorf("the parts of %s are %s, %s, %d", a, num, den, e)
		}
	}
}

// P3.1
func TestCompare(t *testing.T) {
	for _, a := range samples() {
		for _, b := range samples() {
			if order, e := Compare(a, b); e != api.OK || order != toBig(t, a).Cmp(toBig(t, b)) {
				t.Errorf("Compare(%s, %s) is %d, %d", a, b, order, e)
			}
		}
	}
}

// P3.1: neighbours of long numbers.
func TestCompareNeighbours(t *testing.T) {
	source := rand.New(rand.NewSource(2))
	for range 500 {
		a := toBig(t, randomNumber(source, 1+source.Intn(40)))
		b := new(big.Rat).Add(a, toBig(t, api.Rat("1/1"+strings.Repeat("0", source.Intn(60)))))
		for _, c := range []struct {
			x, y api.Rat
			want int
		}{{text(a), text(b), -1}, {text(b), text(a), 1}, {text(b), text(b), 0}} {
			if order, e := Compare(c.x, c.y); e != api.OK || order != c.want {
				t.Errorf("Compare(%s, %s) is %d, %d", c.x, c.y, order, e)
			}
		}
	}
}

// P3.2
func TestOperations(t *testing.T) {
	for _, a := range samples() {
		for _, b := range samples() {
			checkOperations(t, a, b)
		}
	}
	for p := int64(-6); p <= 6; p++ {
		for q := int64(1); q <= 6; q++ {
			for r := int64(-6); r <= 6; r++ {
				for s := int64(1); s <= 6; s++ {
					checkOperations(t, text(big.NewRat(p, q)), text(big.NewRat(r, s)))
				}
			}
		}
	}
}

// P3.2: numbers with denominators in common, of which less or more remains.
func TestOperationsOfRelatedNumbers(t *testing.T) {
	source := rand.New(rand.NewSource(3))
	for range 1000 {
		shared := new(big.Rat).SetInt(randomInt(source, 1+source.Intn(30)))
		a, b := toBig(t, randomNumber(source, 1+source.Intn(30))), toBig(t, randomNumber(source, 1+source.Intn(30)))
		first, second := new(big.Rat).Quo(a, shared), new(big.Rat).Quo(b, shared)
		checkOperations(t, text(first), text(second))
		checkOperations(t, text(first), text(new(big.Rat).Neg(first)))
		checkOperations(t, text(first), text(new(big.Rat).Inv(second)))
		checkOperations(t, text(first), text(new(big.Rat).Sub(a, first)))
	}
}

func checkOperations(t *testing.T, a, b api.Rat) {
	t.Helper()
	x, y := toBig(t, a), toBig(t, b)
	if c, e := Add(a, b); e != api.OK || c != text(new(big.Rat).Add(x, y)) {
		t.Errorf("%s + %s is %s, %d", a, b, c, e)
	}
	if c, e := Sub(a, b); e != api.OK || c != text(new(big.Rat).Sub(x, y)) {
		t.Errorf("%s - %s is %s, %d", a, b, c, e)
	}
	if c, e := Mul(a, b); e != api.OK || c != text(new(big.Rat).Mul(x, y)) {
		t.Errorf("%s * %s is %s, %d", a, b, c, e)
	}
	if b == "0" {
		return
	}
	if c, e := Div(a, b); e != api.OK || c != text(new(big.Rat).Quo(x, y)) {
		t.Errorf("%s / %s is %s, %d", a, b, c, e)
	}
}

// P3.5
func TestNumbersAreAnOrderedField(t *testing.T) {
	source := rand.New(rand.NewSource(4))
	for range 500 {
		a, b, c := randomNumber(source, 1+source.Intn(25)), randomNumber(source, 1+source.Intn(25)), randomNumber(source, 1+source.Intn(25))
		same(t, "a + b = b + a", sum(a, b), sum(b, a))
		same(t, "a b = b a", product(a, b), product(b, a))
		same(t, "(a + b) + c = a + (b + c)", sum(sum(a, b), c), sum(a, sum(b, c)))
		same(t, "(a b) c = a (b c)", product(product(a, b), c), product(a, product(b, c)))
		same(t, "a (b + c) = a b + a c", product(a, sum(b, c)), sum(product(a, b), product(a, c)))
		same(t, "a - a = 0", sum(a, product("-1", a)), "0")
		inverse, _ := Div("1", a)
		same(t, "a / a = 1", product(a, inverse), "1")
		order, _ := Compare(a, b)
		moved, _ := Compare(sum(a, c), sum(b, c))
		turned, _ := Compare(product(a, c), product(b, c))
		sign, _ := Compare(c, "0")
		if moved != order || turned != order*sign {
			t.Errorf("%s and %s are in the order %d, with %s: %d and %d", a, b, order, c, moved, turned)
		}
	}
}

func sum(a, b api.Rat) api.Rat {
	s, _ := Add(a, b)
	return s
}

func product(a, b api.Rat) api.Rat {
	p, _ := Mul(a, b)
	return p
}

func same[T cmp.Ordered](t *testing.T, what string, a, b T) {
	t.Helper()
	var zero T
	if a != b || a == zero {
		t.Errorf("%s: %v and %v", what, a, b)
	}
}

// The chapter's examples.
func TestExamples(t *testing.T) {
	same(t, "sum", sum("1/2", "1/3"), "5/6")
	quotient, _ := Div("3/4", "-3/2")
	same(t, "quotient", quotient, "-1/2")
	floor, _ := Floor("-1/2")
	same(t, "floor", floor, "-1")
	decimal, _ := Decimal("-2/3", 2)
	same(t, "decimal", decimal, "-0.67")
	decimal, _ = Decimal("5/2", 0)
	same(t, "decimal", decimal, "3")
	parsed, _ := Parse("0.250")
	same(t, "parsed", parsed, "1/4")
	simplest, _ := Simplest("3/10", "2/5")
	same(t, "simplest", simplest, "1/3")
	simplest, _ = Simplest("-1/2", "5")
	same(t, "simplest", simplest, "0")
}
