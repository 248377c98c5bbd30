package words

import (
	"math/big"
	"math/rand"
	"slices"
	"strings"
	"testing"
)

// edges are the words at which guesses and carries go wrong first.
var edges = []uint64{0, 1, 2, Base/2 - 1, Base / 2, Base/2 + 1, Base - 2, Base - 1}

func randomWords(source *rand.Rand, size int) []uint64 {
	x := make([]uint64, size)
	for i := range x {
		x[i] = edges[source.Intn(len(edges))]
		if source.Intn(3) == 0 {
			x[i] = uint64(source.Intn(Base))
		}
	}
	return Trim(x)
}

func toBig(x []uint64) *big.Int {
	n := new(big.Int)
	for i := len(x) - 1; i >= 0; i-- {
		n.Mul(n, big.NewInt(Base))
		n.Add(n, big.NewInt(int64(x[i])))
	}
	return n
}

func isTrimmed(x []uint64) bool { return len(x) == 0 || x[len(x)-1] != 0 }

func TestReadAndWrite(t *testing.T) {
	for _, text := range []string{"0", "1", "999999999", "1000000000", "1000000001", "999999999999999999", "1000000000000000000", "5" + strings.Repeat("0", 50), strings.Repeat("123456789", 7)} {
		x := Read(text)
		if !isTrimmed(x) || toBig(x).String() != text || Write(x) != text {
			t.Errorf("%s is read as %v, and written as %s", text, x, Write(x))
		}
	}
	if x := Read("000000000000000000007"); !slices.Equal(x, []uint64{7}) {
		t.Error(x)
	}
}

func TestLess(t *testing.T) {
	source := rand.New(rand.NewSource(1))
	for range 2000 {
		x, y := randomWords(source, source.Intn(4)), randomWords(source, source.Intn(4))
		if Less(x, y) != (toBig(x).Cmp(toBig(y)) < 0) {
			t.Error(x, y)
		}
	}
}

func TestMultiply(t *testing.T) {
	source := rand.New(rand.NewSource(2))
	for range 2000 {
		x, y := randomWords(source, source.Intn(50)), randomWords(source, source.Intn(50))
		p := Multiply(x, y)
		if !isTrimmed(p) || toBig(p).Cmp(new(big.Int).Mul(toBig(x), toBig(y))) != 0 {
			t.Error(x, y, p)
		}
	}
	most := slices.Repeat([]uint64{Base - 1}, 1000)
	if p := Multiply(most, most); toBig(p).Cmp(new(big.Int).Mul(toBig(most), toBig(most))) != 0 {
		t.Error("the greatest sums")
	}
}

func TestDivide(t *testing.T) {
	source := rand.New(rand.NewSource(3))
	for range 20000 {
		checkDivision(t, randomWords(source, source.Intn(9)), append(randomWords(source, source.Intn(5)), 1+uint64(source.Intn(3))*(Base/2-1)))
	}
}

// A guess that is too great by 1 although three words were looked at.
func TestDivideAddsBack(t *testing.T) {
	found := 0
	for _, a := range edges {
		for _, b := range edges {
			for _, c := range edges {
				x, y := Trim([]uint64{a, b, c, Base/2 - 1}), []uint64{Base - 1, 0, Base / 2}
				part := append(slices.Clone(x), 0)[:4]
				if subtractTimes(part, y, guessWord(part, y)) {
					found++
				}
				checkDivision(t, x, y)
			}
		}
	}
	if found == 0 {
		t.Error("no guess was too great")
	}
}

func checkDivision(t *testing.T, x, y []uint64) {
	t.Helper()
	kept, keptToo := slices.Clone(x), slices.Clone(y)
	q, r := Divide(x, y)
	quotient, rest := new(big.Int).QuoRem(toBig(x), toBig(y), new(big.Int))
	if !isTrimmed(q) || !isTrimmed(r) || toBig(q).Cmp(quotient) != 0 || toBig(r).Cmp(rest) != 0 {
		t.Errorf("%v / %v is %v, %v", x, y, q, r)
	}
	if !slices.Equal(x, kept) || !slices.Equal(y, keptToo) {
		t.Errorf("%v / %v has changed its arguments", kept, keptToo)
	}
}

func TestCommonAndCombine(t *testing.T) {
	source := rand.New(rand.NewSource(4))
	for range 5000 {
		d := randomWords(source, source.Intn(4))
		x, y := Multiply(d, randomWords(source, source.Intn(9))), Multiply(d, randomWords(source, source.Intn(9)))
		checkEuclid(t, x, y)
	}
	for x := range uint64(60) {
		for y := range uint64(60) {
			checkEuclid(t, Trim([]uint64{x}), Trim([]uint64{y}))
		}
	}
}

// Neighbouring Fibonacci numbers need the most steps, and powers with a neighbour the greatest quotients.
func TestCombineExtremes(t *testing.T) {
	x, y := big.NewInt(1), big.NewInt(1)
	for range 1000 {
		x, y = y, new(big.Int).Add(x, y)
		checkEuclid(t, Read(x.String()), Read(y.String()))
		checkEuclid(t, Read(y.String()), Read(x.String()))
	}
	for _, digits := range []int{9, 17, 18, 19, 27, 100} {
		power := "1" + strings.Repeat("0", digits)
		nines := strings.Repeat("9", digits)
		checkEuclid(t, Read(power), Read(nines))
		checkEuclid(t, Read(nines+"0"), Read(power))
		checkEuclid(t, Read(power+"1"), Read(power))
	}
}

func checkEuclid(t *testing.T, x, y []uint64) {
	t.Helper()
	want := new(big.Int).GCD(nil, nil, toBig(x), toBig(y))
	if g := Common(x, y); !isTrimmed(g) || toBig(g).Cmp(want) != 0 {
		t.Errorf("the divisor of %v and %v is %v", x, y, g)
	}
	if len(y) == 0 {
		return
	}
	g, factor, negative := Combine(x, y)
	product := new(big.Int).Mul(toBig(x), toBig(factor))
	if negative {
		product.Neg(product)
	}
	product.Sub(product, want)
	if product.Rem(product, toBig(y)); toBig(g).Cmp(want) != 0 || product.Sign() != 0 || toBig(factor).Cmp(toBig(y)) > 0 {
		t.Errorf("%v and %v combine to %v with %v, %v", x, y, g, factor, negative)
	}
}

// Results share no memory with arguments.
func TestResultsAreNew(t *testing.T) {
	x, y := []uint64{5, 6}, []uint64{7, 8, 9}
	_, rest := Divide(x, y)
	common := Common(x, nil)
	other := Common(nil, y)
	rest[0], common[0], other[0] = 0, 0, 0
	if x[0] != 5 || y[0] != 7 {
		t.Error(x, y)
	}
}
