package vector

import (
	"math/big"
	"math/rand"
	"slices"
	"testing"

	"garboard/api"
)

// none are strings that are no numbers.
var none = []api.Rat{"", "-0", "2/4", "1.5", "01", "1/0", "4/1", "x", "\xff", "123456789012345678901234567890/246913578024691357802469135780"}

// kinds are random numbers of many kinds: mostly 0, small, quotients, and long ones.
var kinds = []func(*rand.Rand) *big.Rat{
	func(source *rand.Rand) *big.Rat { return big.NewRat(max(0, source.Int63n(5)-3), 1) },
	func(source *rand.Rand) *big.Rat { return big.NewRat(source.Int63n(7)-3, 1) },
	func(source *rand.Rand) *big.Rat { return big.NewRat(source.Int63n(19)-9, 1+source.Int63n(6)) },
	func(source *rand.Rand) *big.Rat {
		return big.NewRat(source.Int63()-source.Int63(), 1+source.Int63n(1000000000000))
	},
}

// numbers are the coordinates of a vector.
type numbers [3]*big.Rat

// text returns the canonical text of a number.
func text(x *big.Rat) api.Rat { return api.Rat(x.RatString()) }

// made returns the vector with some coordinates.
func made(a numbers) api.Vector { return api.Vector{X: text(a[0]), Y: text(a[1]), Z: text(a[2])} }

// random returns vectors of each kind, and some with a coordinate of another kind.
func random(source *rand.Rand, count int) []numbers {
	var out []numbers
	for i := range count {
		kind := kinds[i%len(kinds)]
		a := numbers{kind(source), kind(source), kind(source)}
		if i%3 == 0 {
			a[source.Intn(3)] = kinds[source.Intn(len(kinds))](source)
		}
		out = append(out, a)
	}
	return out
}

func plusBig(x, y *big.Rat) *big.Rat  { return new(big.Rat).Add(x, y) }
func minusBig(x, y *big.Rat) *big.Rat { return new(big.Rat).Sub(x, y) }
func timesBig(x, y *big.Rat) *big.Rat { return new(big.Rat).Mul(x, y) }

// each returns what an operation makes of the coordinates of two vectors.
func each(a, b numbers, operation func(x, y *big.Rat) *big.Rat) numbers {
	return numbers{operation(a[0], b[0]), operation(a[1], b[1]), operation(a[2], b[2])}
}

func dotted(a, b numbers) *big.Rat {
	return plusBig(plusBig(timesBig(a[0], b[0]), timesBig(a[1], b[1])), timesBig(a[2], b[2]))
}

// crossed is written as the chapter writes it.
func crossed(a, b numbers) numbers {
	return numbers{
		minusBig(timesBig(a[1], b[2]), timesBig(a[2], b[1])),
		minusBig(timesBig(a[2], b[0]), timesBig(a[0], b[2])),
		minusBig(timesBig(a[0], b[1]), timesBig(a[1], b[0])),
	}
}

// determinant is the sum over all orders of the rows, with the sign of each.
func determinant(a, b, c numbers) *big.Rat {
	sum := new(big.Rat)
	for _, p := range [][4]int64{{0, 1, 2, 1}, {1, 2, 0, 1}, {2, 0, 1, 1}, {0, 2, 1, -1}, {2, 1, 0, -1}, {1, 0, 2, -1}} {
		product := timesBig(timesBig(a[p[0]], b[p[1]]), c[p[2]])
		sum.Add(sum, product.Mul(product, big.NewRat(p[3], 1)))
	}
	return sum
}

// P11.1
func TestValid(t *testing.T) {
	for _, a := range random(rand.New(rand.NewSource(1)), 40) {
		if !Valid(made(a)) {
			t.Errorf("%v is not valid", made(a))
		}
	}
	for _, x := range none {
		for _, a := range []api.Vector{{X: x, Y: "1", Z: "1"}, {X: "1", Y: x, Z: "1"}, {X: "1", Y: "1", Z: x}, {X: x, Y: x, Z: x}} {
			if Valid(a) {
				t.Errorf("%v is valid", a)
			}
		}
	}
	if !Valid(api.Vector{X: "0", Y: "0", Z: "0"}) || Valid(api.Vector{}) {
		t.Error("the zero vector, or no vector")
	}
}

// P11.1
func TestSumsAndProducts(t *testing.T) {
	source := rand.New(rand.NewSource(2))
	for _, a := range random(source, 40) {
		for _, b := range random(source, 40) {
			x := kinds[source.Intn(len(kinds))](source)
			if got, e := Add(made(a), made(b)); e != api.OK || got != made(each(a, b, plusBig)) {
				t.Errorf("%v and %v are %v, %d", made(a), made(b), got, e)
			}
			if got, e := Sub(made(a), made(b)); e != api.OK || got != made(each(a, b, minusBig)) {
				t.Errorf("%v less %v is %v, %d", made(a), made(b), got, e)
			}
			if got, e := Scale(made(a), text(x)); e != api.OK || got != made(each(a, numbers{x, x, x}, timesBig)) {
				t.Errorf("%v times %s is %v, %d", made(a), text(x), got, e)
			}
			if got, e := Dot(made(a), made(b)); e != api.OK || got != text(dotted(a, b)) {
				t.Errorf("%v times %v is %s, %d", made(a), made(b), got, e)
			}
			if got, e := Cross(made(a), made(b)); e != api.OK || got != made(crossed(a, b)) {
				t.Errorf("%v x %v is %v, %d", made(a), made(b), got, e)
			}
		}
	}
}

// P11.1
func TestDet(t *testing.T) {
	source := rand.New(rand.NewSource(3))
	found := map[int]int{}
	for _, a := range random(source, 16) {
		for _, b := range random(source, 16) {
			for _, c := range random(source, 16) {
				want := determinant(a, b, c)
				if got, e := Det(made(a), made(b), made(c)); e != api.OK || got != text(want) {
					t.Errorf("the determinant of %v, %v and %v is %s, %d", made(a), made(b), made(c), got, e)
				}
				found[want.Sign()]++
			}
		}
	}
	if found[-1] < 100 || found[0] < 100 || found[1] < 100 {
		t.Errorf("signs of determinants: %v", found)
	}
}

// P11.4: the consequences for products.
func TestPropertiesOfProducts(t *testing.T) {
	source := rand.New(rand.NewSource(4))
	for i, a := range random(source, 30) {
		for _, b := range random(source, 30) {
			first, second, third := made(a), made(b), made(random(source, 1+i%4)[i%4])
			product := sure(Cross(first, second))
			if sure(Dot(product, first)) != "0" || sure(Dot(product, second)) != "0" {
				t.Errorf("%v x %v is not at right angles", first, second)
			}
			if sure(Cross(second, first)) != sure(Scale(product, "-1")) {
				t.Errorf("%v x %v does not change its sign", first, second)
			}
			shadow := dotted(a, b)
			if want := minusBig(timesBig(dotted(a, a), dotted(b, b)), timesBig(shadow, shadow)); sure(Dot(product, product)) != text(want) {
				t.Errorf("%v x %v does not have the length %s", first, second, text(want))
			}
			det := sure(Det(first, second, third))
			if sure(Det(second, third, first)) != det || sure(Det(third, first, second)) != det {
				t.Errorf("the determinant of %v, %v and %v changes", first, second, third)
			}
			if sure(Det(second, first, third)) != text(new(big.Rat).Neg(rat(det))) {
				t.Errorf("the determinant of %v, %v and %v does not change its sign", first, second, third)
			}
		}
	}
}

// sure returns a result; an error shows by its being zero.
func sure[T any](result T, _ api.Errno) T { return result }

// rat needs a number.
func rat(x api.Rat) *big.Rat {
	n, _ := new(big.Rat).SetString(string(x))
	return n
}

// P11.3
func TestRange(t *testing.T) {
	source := rand.New(rand.NewSource(5))
	for size := 1; size <= 40; size++ {
		for _, a := range random(source, 8) {
			var points []api.Vector
			var products []*big.Rat
			for _, p := range random(source, size) {
				points = append(points, made(p))
				products = append(products, dotted(a, p))
			}
			want := api.Interval{Lo: text(slices.MinFunc(products, (*big.Rat).Cmp)), Hi: text(slices.MaxFunc(products, (*big.Rat).Cmp))}
			if got, e := Range(points, made(a)); e != api.OK || got != want {
				t.Errorf("the range of %v along %v is %v instead of %v, %d", points, made(a), got, want, e)
			}
		}
	}
	all := slices.Repeat([]api.Vector{{X: "1", Y: "2", Z: "3"}}, 1536)
	all[700].X, all[1535].Z = "-1/2", "4"
	if got, e := Range(all, api.Vector{X: "2", Y: "0", Z: "1"}); e != api.OK || got != (api.Interval{Lo: "2", Hi: "6"}) {
		t.Errorf("the range of as many points as there may be is %v, %d", got, e)
	}
	if got, e := Range(all, api.Vector{X: "0", Y: "0", Z: "0"}); e != api.OK || got != (api.Interval{Lo: "0", Hi: "0"}) {
		t.Errorf("the range along the zero vector is %v, %d", got, e)
	}
}

// The chapter's examples.
func TestExamples(t *testing.T) {
	x, y, z := api.Vector{X: "1", Y: "0", Z: "0"}, api.Vector{X: "0", Y: "1", Z: "0"}, api.Vector{X: "0", Y: "0", Z: "1"}
	if got, e := Cross(x, y); e != api.OK || got != z {
		t.Errorf("x x y is %v, %d", got, e)
	}
	plane := api.Plane{N: api.Vector{X: "0", Y: "0", Z: "2"}, C: "2"}
	if got, e := Crossing(plane, api.Vector{X: "0", Y: "0", Z: "0"}, api.Vector{X: "3", Y: "0", Z: "3"}); e != api.OK || got != (api.Vector{X: "1", Y: "0", Z: "1"}) {
		t.Errorf("the crossing is %v, %d", got, e)
	}
	if got, e := Through(x, y, z); e != api.OK || got != (api.Plane{N: api.Vector{X: "1", Y: "1", Z: "1"}, C: "1"}) {
		t.Errorf("the plane is %v, %d", got, e)
	}
}
