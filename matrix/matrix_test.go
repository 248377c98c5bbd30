package matrix

import (
	"math/big"
	"math/bits"
	"math/rand"
	"reflect"
	"slices"
	"strings"
	"testing"

	"garboard/api"
)

// none are strings that are no numbers.
var none = []api.Rat{"", "-0", "2/4", "1.5", "01", "1/0", "4/1", "x", "\xff", "123456789012345678901234567890/246913578024691357802469135780"}

// kinds are random numbers of many kinds: mostly 0, small, quotients, and long ones.
var kinds = []func(*rand.Rand) *big.Rat{
	func(source *rand.Rand) *big.Rat { return big.NewRat(max(0, source.Int63n(5)-3), 1) },
	func(source *rand.Rand) *big.Rat { return big.NewRat(source.Int63n(7)-3, 1) },
	func(source *rand.Rand) *big.Rat { return big.NewRat(source.Int63n(19)-9, 1+source.Int63n(6)) },
	func(source *rand.Rand) *big.Rat {
		return big.NewRat(source.Int63()-source.Int63(), 1+source.Int63n(1000000000000))
	},
}

// random returns a matrix of random numbers.
func random(source *rand.Rand, rows, columns int, kind func(*rand.Rand) *big.Rat) [][]*big.Rat {
	out := make([][]*big.Rat, rows)
	for i := range out {
		for range columns {
			out[i] = append(out[i], kind(source))
		}
	}
	return out
}

// small returns random matrices of each kind, of all sizes up to a greatest one.
func small(source *rand.Rand, most int) [][][]*big.Rat {
	var out [][][]*big.Rat
	for rows := 1; rows <= most; rows++ {
		for columns := 1; columns <= most; columns++ {
			for _, kind := range kinds {
				out = append(out, random(source, rows, columns, kind), random(source, rows, columns, kind))
			}
		}
	}
	return out
}

// text returns the canonical text of a number.
func text(x *big.Rat) api.Rat { return api.Rat(x.RatString()) }

// texts returns a matrix as the functions take it.
func texts(a [][]*big.Rat) [][]api.Rat {
	var out [][]api.Rat
	for _, row := range a {
		out = append(out, list(row))
	}
	return out
}

func list(row []*big.Rat) []api.Rat {
	var out []api.Rat
	for _, x := range row {
		out = append(out, text(x))
	}
	return out
}

// numbers needs valid numbers.
func numbers(t *testing.T, l []api.Rat) []*big.Rat {
	t.Helper()
	var out []*big.Rat
	for _, x := range l {
		n, ok := new(big.Rat).SetString(string(x))
		if !ok || text(n) != x {
			t.Fatalf("%q is no number", x)
		}
		out = append(out, n)
	}
	return out
}

// rows reads a matrix in which rows end with a semicolon.
func rows(s string) [][]api.Rat {
	var out [][]api.Rat
	for line := range strings.SplitSeq(s, ";") {
		var row []api.Rat
		for word := range strings.FieldsSeq(line) {
			row = append(row, api.Rat(word))
		}
		out = append(out, row)
	}
	return out
}

// filled returns a matrix with the same number everywhere.
func filled(rows, columns int, x api.Rat) [][]api.Rat {
	var out [][]api.Rat
	for range rows {
		out = append(out, slices.Repeat([]api.Rat{x}, columns))
	}
	return out
}

// multiplied returns the product as it is defined.
func multiplied(a, b [][]*big.Rat) [][]*big.Rat {
	var out [][]*big.Rat
	for _, row := range a {
		var products []*big.Rat
		for k := range b[0] {
			sum := new(big.Rat)
			for i, x := range row {
				sum.Add(sum, new(big.Rat).Mul(x, b[i][k]))
			}
			products = append(products, sum)
		}
		out = append(out, products)
	}
	return out
}

func turned(a [][]*big.Rat) [][]*big.Rat {
	out := make([][]*big.Rat, len(a[0]))
	for _, row := range a {
		for k, x := range row {
			out[k] = append(out[k], x)
		}
	}
	return out
}

// expanded returns the determinant by the expansion along rows: that of the first rows and a set of columns from those of one row and one column less.
func expanded(a [][]*big.Rat) *big.Rat {
	found := make([]*big.Rat, 1<<len(a))
	found[0] = big.NewRat(1, 1)
	for set := 1; set < len(found); set++ {
		found[set] = new(big.Rat)
		row := a[bits.OnesCount(uint(set))-1]
		for k, x := range row {
			if set&(1<<k) == 0 {
				continue
			}
			part := new(big.Rat).Mul(x, found[set^(1<<k)])
			if isOdd := bits.OnesCount(uint(set)>>(k+1))%2 == 1; isOdd {
				part.Neg(part)
			}
			found[set].Add(found[set], part)
		}
	}
	return found[len(found)-1]
}

// P7.1
func TestCheck(t *testing.T) {
	for _, c := range []struct {
		what string
		a    [][]api.Rat
		e    api.Errno
	}{
		{"the least", filled(1, 1, "0"), api.OK}, {"the greatest", filled(12, 12, "-1/3"), api.OK}, {"a row", filled(1, 12, "5"), api.OK}, {"a column", filled(12, 1, "5"), api.OK},
		{"nil", nil, api.ErrEmpty}, {"no rows", [][]api.Rat{}, api.ErrEmpty}, {"an empty row", [][]api.Rat{{}}, api.ErrEmpty}, {"a nil row", [][]api.Rat{nil}, api.ErrEmpty},
		{"an empty row in front", [][]api.Rat{nil, {"1"}}, api.ErrEmpty}, {"too many empty rows", make([][]api.Rat, 13), api.ErrEmpty},
		{"too many rows", filled(13, 1, "1"), api.ErrTooLarge}, {"too many columns", filled(1, 13, "1"), api.ErrTooLarge}, {"too many of both", filled(13, 13, "x"), api.ErrTooLarge},
		{"too many rows that differ", append(filled(12, 2, "x"), nil), api.ErrTooLarge}, {"too many in the first row", append(filled(1, 13, "1"), nil), api.ErrTooLarge},
		{"too many in another row", append(filled(1, 12, "1"), filled(1, 13, "1")...), api.ErrMismatch}, {"an empty row behind", [][]api.Rat{{"1"}, nil}, api.ErrMismatch}, {"a shorter row", rows("1 2; 3 4; 5"), api.ErrMismatch}, {"a longer row", rows("1 2; 3 4; 5 6 7"), api.ErrMismatch},
		{"a shorter row behind what is no number", rows("x 2; 3 4; 5"), api.ErrMismatch}, {"what is no number in the last place", rows("1 2; 3 4; 5 2/4"), api.ErrArg}, {"what is no number in the first place", rows("-0 2; 3 4"), api.ErrArg},
	} {
		if e := Check(c.a); e != c.e {
			t.Errorf("%s: %d instead of %d", c.what, e, c.e)
		}
	}
	for _, x := range none {
		if e := Check([][]api.Rat{{"1", x}}); e != api.ErrArg {
			t.Errorf("%q: %d", x, e)
		}
	}
}

// P7.1
func TestMul(t *testing.T) {
	source := rand.New(rand.NewSource(1))
	for _, a := range small(source, 5) {
		for columns := 1; columns <= 5; columns++ {
			b := random(source, len(a[0]), columns, kinds[columns%len(kinds)])
			if c, e := Mul(texts(a), texts(b)); e != api.OK || !reflect.DeepEqual(c, texts(multiplied(a, b))) {
				t.Errorf("%v times %v is %v, %d", texts(a), texts(b), c, e)
			}
		}
	}
	a, b := random(source, 12, 12, kinds[3]), random(source, 12, 12, kinds[2])
	if c, e := Mul(texts(a), texts(b)); e != api.OK || !reflect.DeepEqual(c, texts(multiplied(a, b))) {
		t.Errorf("%v times %v is %v, %d", texts(a), texts(b), c, e)
	}
}

// P7.1
func TestTranspose(t *testing.T) {
	source := rand.New(rand.NewSource(2))
	for _, a := range append(small(source, 5), random(source, 12, 12, kinds[2]), random(source, 1, 12, kinds[2]), random(source, 12, 1, kinds[2])) {
		b, e := Transpose(texts(a))
		if e != api.OK || !reflect.DeepEqual(b, texts(turned(a))) {
			t.Errorf("%v with rows and columns exchanged is %v, %d", texts(a), b, e)
		}
	}
}

// The chapter's examples.
func TestExamples(t *testing.T) {
	a := rows("2 1; 1 -1")
	if x, e := Solve(a, []api.Rat{"5", "1"}); e != api.OK || !slices.Equal(x, []api.Rat{"2", "1"}) {
		t.Error(x, e)
	}
	if d, e := Det(a); e != api.OK || d != "-3" {
		t.Error(d, e)
	}
	if x, rest, e := Fit(rows("1 0; 1 1; 1 2"), []api.Rat{"1", "2", "4"}); e != api.OK || !slices.Equal(x, []api.Rat{"5/6", "3/2"}) || rest != "1/6" {
		t.Error(x, rest, e)
	}
}
