package matrix

import (
	"math/big"
	"math/rand"
	"reflect"
	"slices"
	"testing"

	"garboard/api"
)

// squares returns square matrices of all sizes, singular ones among them.
func squares(source *rand.Rand) [][][]*big.Rat {
	var out [][][]*big.Rat
	for size := 1; size <= 6; size++ {
		for range 12 {
			for _, kind := range kinds {
				out = append(out, random(source, size, size, kind))
			}
		}
	}
	for size := 7; size <= api.MaxSize; size++ {
		out = append(out, random(source, size, size, kinds[1]), random(source, size, size, kinds[2]), ofRank(source, size, size, size-1))
	}
	return append(out, random(source, api.MaxSize, api.MaxSize, kinds[3]))
}

// ofRank returns a matrix of a rank: the product of two that have a unit matrix within them, in an order by chance.
func ofRank(source *rand.Rand, rows, columns, rank int) [][]*big.Rat {
	left, right := random(source, rows, rank, kinds[2]), random(source, columns, rank, kinds[2])
	for _, a := range [][][]*big.Rat{left, right} {
		for i := range rank {
			for k := range rank {
				a[i][k] = new(big.Rat)
			}
			a[i][i] = big.NewRat(1, 1)
		}
		source.Shuffle(len(a), func(i, k int) { a[i], a[k] = a[k], a[i] })
	}
	if rank == 0 {
		return random(source, rows, columns, func(*rand.Rand) *big.Rat { return new(big.Rat) })
	}
	return multiplied(left, turned(right))
}

// P7.2
func TestDet(t *testing.T) {
	source := rand.New(rand.NewSource(3))
	singular := 0
	for _, a := range squares(source) {
		want := expanded(a)
		if d, e := Det(texts(a)); e != api.OK || d != text(want) {
			t.Errorf("the determinant of %v is %s, %d", texts(a), d, e)
		}
		if want.Sign() == 0 {
			singular++
		}
	}
	if singular < 20 {
		t.Errorf("only %d matrices were singular", singular)
	}
	for _, c := range []struct{ a, det string }{
		{"0", "0"}, {"-2/3", "-2/3"}, {"0 1; 1 0", "-1"}, {"0 1 0; 0 0 1; 1 0 0", "1"}, {"1 2; 2 4", "0"}, {"0 0; 0 0", "0"}, {"0 2; 3 0", "-6"}, {"1/2 1/3; 1/4 1/5", "1/60"}, {"0 0 1; 0 1 0; 1 0 0", "-1"}, {"0 1; 0 2", "0"}, {"1 2 3; 4 5 6; 7 8 9", "0"}, {"1 1 1; 1 1 2; 1 2 1", "-1"},
	} {
		if d, e := Det(rows(c.a)); e != api.OK || string(d) != c.det {
			t.Errorf("the determinant of %s is %s, %d", c.a, d, e)
		}
	}
}

// P7.2, P7.3: the matrices with 1/(i + k + 1), whose determinants are the third powers of the factorials below their size, divided by the factorials from there to below its double.
func TestHilbert(t *testing.T) {
	for size := 1; size <= api.MaxSize; size++ {
		a := make([][]*big.Rat, size)
		for i := range a {
			for k := range size {
				a[i] = append(a[i], big.NewRat(1, int64(i+k+1)))
			}
		}
		num, den := big.NewInt(1), big.NewInt(1)
		for n := range 2 * size {
			factorial := new(big.Int).MulRange(1, int64(n))
			if n < size {
				num.Mul(num, factorial.Exp(factorial, big.NewInt(3), nil))
			} else {
				den.Mul(den, factorial)
			}
		}
		want := text(new(big.Rat).SetFrac(num, den))
		if d, e := Det(texts(a)); e != api.OK || d != want {
			t.Errorf("the determinant of size %d is %s instead of %s, %d", size, d, want, e)
		}
		checkInverse(t, a)
	}
}

// greatestMinor returns the rank: the size of the greatest square part whose determinant is not 0.
func greatestMinor(a [][]*big.Rat) int {
	rank := 0
	for some := 1; some < 1<<len(a); some++ {
		part := turned(chosen(a, some))
		for set := 1; set < 1<<len(part); set++ {
			if square := chosen(part, set); len(square) == len(square[0]) && len(square) > rank && expanded(square).Sign() != 0 {
				rank = len(square)
			}
		}
	}
	return rank
}

// chosen returns the rows of a set.
func chosen(a [][]*big.Rat, set int) [][]*big.Rat {
	var out [][]*big.Rat
	for i, row := range a {
		if set&(1<<i) != 0 {
			out = append(out, row)
		}
	}
	return out
}

// P7.2
func TestRank(t *testing.T) {
	source := rand.New(rand.NewSource(4))
	for _, a := range small(source, 5) {
		if r, e := Rank(texts(a)); e != api.OK || r != greatestMinor(a) {
			t.Errorf("the rank of %v is %d, %d", texts(a), r, e)
		}
	}
	for range 60 {
		height, width := 1+source.Intn(api.MaxSize), 1+source.Intn(api.MaxSize)
		rank := source.Intn(1 + min(height, width))
		a := ofRank(source, height, width, rank)
		if r, e := Rank(texts(a)); e != api.OK || r != rank {
			t.Errorf("the rank of %v is %d instead of %d, %d", texts(a), r, rank, e)
		}
	}
	for _, c := range []struct {
		a    string
		rank int
	}{{"0", 0}, {"0 0 0; 0 0 0", 0}, {"0 0 7", 1}, {"0; 0; 7", 1}, {"0 1 2; 0 2 4; 0 0 1", 2}, {"0 0 1; 0 0 2", 1}, {"1 2 3; 2 4 6; 1/3 2/3 2", 2}, {"1 1 0 0; 0 0 1 1; 1 1 1 1", 2}} {
		if r, e := Rank(rows(c.a)); e != api.OK || r != c.rank {
			t.Errorf("the rank of %s is %d, %d", c.a, r, e)
		}
	}
}

// P7.3: a solution is unique if the determinant is not 0, so that it is enough to put it into the equations.
func TestSolve(t *testing.T) {
	source := rand.New(rand.NewSource(5))
	for _, a := range squares(source) {
		b := random(source, 1, len(a), kinds[source.Intn(len(kinds))])
		x, e := Solve(texts(a), list(b[0]))
		if expanded(a).Sign() == 0 {
			if x != nil || e != api.ErrSingular {
				t.Errorf("%v x = %v has the solution %v, %d", texts(a), list(b[0]), x, e)
			}
			continue
		}
		if e != api.OK || len(x) != len(a) || !reflect.DeepEqual(texts(multiplied(a, turned([][]*big.Rat{numbers(t, x)}))), texts(turned(b))) {
			t.Errorf("%v x = %v has the solution %v, %d", texts(a), list(b[0]), x, e)
		}
	}
}

// P7.3, P7.4
func TestInverse(t *testing.T) {
	for _, a := range squares(rand.New(rand.NewSource(6))) {
		if expanded(a).Sign() != 0 {
			checkInverse(t, a)
		} else if b, e := Inverse(texts(a)); b != nil || e != api.ErrSingular {
			t.Errorf("the inverse of %v is %v, %d", texts(a), b, e)
		}
	}
}

func checkInverse(t *testing.T, a [][]*big.Rat) {
	t.Helper()
	found, e := Inverse(texts(a))
	if e != api.OK || len(found) != len(a) {
		t.Errorf("the inverse of %v is %v, %d", texts(a), found, e)
		return
	}
	var b [][]*big.Rat
	for _, row := range found {
		b = append(b, numbers(t, row))
	}
	for i, row := range multiplied(a, b) {
		for k, x := range row {
			if isOne := i == k; x.Cmp(big.NewRat(1, 1)) != 0 && isOne || x.Sign() != 0 && !isOne {
				t.Errorf("%v times %v is not the unit matrix", texts(a), found)
				return
			}
		}
	}
}

// P7.3, P7.4: the residuals are at right angles to the columns, which is so for the least squares alone; other numbers have greater ones.
func TestFit(t *testing.T) {
	source := rand.New(rand.NewSource(7))
	dependent := 0
	for _, a := range append(small(source, 5), random(source, 12, 4, kinds[2]), random(source, 12, 12, kinds[1]), ofRank(source, 12, 6, 5), ofRank(source, 12, 6, 6)) {
		b := random(source, len(a), 1, kinds[source.Intn(len(kinds))])
		x, rest, e := Fit(texts(a), list(turned(b)[0]))
		if rank, _ := Rank(texts(a)); rank < len(a[0]) {
			dependent++
			if x != nil || rest != "" || e != api.ErrSingular {
				t.Errorf("the fit of %v to %v is %v, %s, %d", texts(a), texts(b), x, rest, e)
			}
			continue
		}
		if e != api.OK || len(x) != len(a[0]) {
			t.Errorf("the fit of %v to %v is %v, %s, %d", texts(a), texts(b), x, rest, e)
			continue
		}
		checkFit(t, a, b, numbers(t, x), rest)
	}
	if dependent < 20 {
		t.Errorf("only %d matrices had dependent columns", dependent)
	}
}

func checkFit(t *testing.T, a, b [][]*big.Rat, x []*big.Rat, rest api.Rat) {
	t.Helper()
	differences := differ(a, b, x)
	for _, row := range multiplied(turned(a), differences) {
		if row[0].Sign() != 0 {
			t.Errorf("the fit of %v to %v is %v, where the residuals are not at right angles", texts(a), texts(b), list(x))
		}
	}
	least := squared(differences)
	if rest != text(least) {
		t.Errorf("the fit of %v to %v has the residual %s instead of %s", texts(a), texts(b), rest, text(least))
	}
	for k := range x {
		for _, step := range []*big.Rat{big.NewRat(1, 1000), big.NewRat(-1, 1000), big.NewRat(7, 1)} {
			other := slices.Clone(x)
			other[k] = new(big.Rat).Add(x[k], step)
			if squared(differ(a, b, other)).Cmp(least) <= 0 {
				t.Errorf("%v fits %v to %v better than %v", list(other), texts(a), texts(b), list(x))
			}
		}
	}
}

func differ(a, b [][]*big.Rat, x []*big.Rat) [][]*big.Rat {
	out := multiplied(a, turned([][]*big.Rat{x}))
	for i := range out {
		out[i][0].Sub(out[i][0], b[i][0])
	}
	return out
}

func squared(column [][]*big.Rat) *big.Rat {
	return multiplied(turned(column), column)[0][0]
}

// P7.3: values that are hit exactly leave no residual, and with as many rows as columns it is the solution.
func TestFitOfWhatFits(t *testing.T) {
	source := rand.New(rand.NewSource(8))
	for rows := 1; rows <= api.MaxSize; rows++ {
		for columns := 1; columns <= rows; columns += 1 + columns/2 {
			a, want := ofRank(source, rows, columns, columns), random(source, columns, 1, kinds[2])
			x, rest, e := Fit(texts(a), list(turned(multiplied(a, want))[0]))
			if e != api.OK || rest != "0" || !slices.Equal(x, list(turned(want)[0])) {
				t.Errorf("the fit of %v is %v instead of %v, %s, %d", texts(a), x, texts(want), rest, e)
			}
		}
	}
}

// P7.4
func TestDetOfProduct(t *testing.T) {
	source := rand.New(rand.NewSource(9))
	for _, a := range squares(source) {
		b := texts(random(source, len(a), len(a), kinds[1]))
		product, _ := Mul(texts(a), b)
		first, _ := Det(texts(a))
		second, _ := Det(b)
		if both, e := Det(product); e != api.OK || both != times(first, second) {
			t.Errorf("the determinants of %v, %v and their product are %s, %s and %s, %d", texts(a), b, first, second, both, e)
		}
	}
}
