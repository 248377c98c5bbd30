package interval

import (
	"math/big"
	"testing"

	"garboard/api"
)

// way is an operation on two intervals, and what it does with two numbers.
type way struct {
	name string
	of   func(a, b api.Interval) (api.Interval, api.Errno)
	each func(x, y *big.Rat) *big.Rat
}

func ways() []way {
	return []way{
		{"+", Add, func(x, y *big.Rat) *big.Rat { return new(big.Rat).Add(x, y) }},
		{"-", Sub, func(x, y *big.Rat) *big.Rat { return new(big.Rat).Sub(x, y) }},
		{"*", Mul, func(x, y *big.Rat) *big.Rat { return new(big.Rat).Mul(x, y) }},
		{"/", Div, func(x, y *big.Rat) *big.Rat { return new(big.Rat).Quo(x, y) }},
	}
}

func hasZero(a api.Interval) bool {
	return a.Lo == "0" || a.Hi == "0" || a.Lo[0] == '-' && a.Hi[0] != '-'
}

// P4.2, P4.4: the result is the hull of those of all numbers; its ends are results of ends, which are among those that are spread.
func TestOperations(t *testing.T) {
	for _, w := range ways() {
		for _, a := range samples() {
			for _, b := range samples() {
				if w.name == "/" && hasZero(b) {
					continue
				}
				var results []*big.Rat
				for _, x := range spread(t, a) {
					for _, y := range spread(t, b) {
						results = append(results, w.each(x, y))
					}
				}
				if c, e := w.of(a, b); e != api.OK || c != hull(results) {
					t.Errorf("%v %s %v is %v, %d", a, w.name, b, c, e)
				}
			}
		}
	}
}

// P4.2, P4.4: the square, which is contained in the product with itself.
func TestSquare(t *testing.T) {
	for _, a := range samples() {
		var results []*big.Rat
		for _, x := range spread(t, a) {
			results = append(results, new(big.Rat).Mul(x, x))
		}
		square, e := Square(a)
		if e != api.OK || square != hull(results) {
			t.Errorf("the square of %v is %v, %d", a, square, e)
		}
		if product, _ := Mul(a, a); !contains(product, square) {
			t.Errorf("the square of %v is %v, its product with itself %v", a, square, product)
		}
	}
}

func contains(a, b api.Interval) bool { return Has(a, b.Lo) && Has(a, b.Hi) }

// P4.4
func TestNarrowerIntervalsHaveNarrowerResults(t *testing.T) {
	for _, a := range samples() {
		for _, inner := range samples() {
			if !contains(a, inner) {
				continue
			}
			checkContained(t, "Square", [2]api.Interval{a, inner}, func(x api.Interval) (api.Interval, api.Errno) { return Square(x) })
			checkContained(t, "Round", [2]api.Interval{a, inner}, func(x api.Interval) (api.Interval, api.Errno) { return Round(x, 7) })
			for _, w := range ways() {
				b := api.Interval{Lo: "-3", Hi: "-1/2"}
				checkContained(t, w.name, [2]api.Interval{a, inner}, func(x api.Interval) (api.Interval, api.Errno) { return w.of(x, b) })
				if w.name != "/" || !hasZero(a) {
					checkContained(t, w.name, [2]api.Interval{a, inner}, func(x api.Interval) (api.Interval, api.Errno) { return w.of(b, x) })
				}
			}
		}
	}
}

// checkContained checks that the result of the second interval is contained in that of the first one.
func checkContained(t *testing.T, name string, pair [2]api.Interval, f func(api.Interval) (api.Interval, api.Errno)) {
	t.Helper()
	outer, e := f(pair[0])
	inner, too := f(pair[1])
	if e != api.OK || too != api.OK || !contains(outer, inner) {
		t.Errorf("%s of %v is %v, of %v it is %v", name, pair[0], outer, pair[1], inner)
	}
}
