package piecewise

import (
	"math/big"
	"math/rand"
	"reflect"
	"slices"
	"strings"
	"testing"

	"garboard/api"
)

// text returns the canonical text of a number.
func text(x *big.Rat) api.Rat { return api.Rat(x.RatString()) }

// rat needs a number.
func rat[S ~string](x S) *big.Rat {
	n, ok := new(big.Rat).SetString(string(x))
	if !ok {
		panic("no number: " + string(x))
	}
	return n
}

// trimmed returns the polynomial with some coefficients, without zeros at the end.
func trimmed(p []*big.Rat) api.Poly {
	var out api.Poly
	for _, c := range p {
		out = append(out, text(c))
	}
	for len(out) > 0 && out[len(out)-1] == "0" {
		out = out[:len(out)-1]
	}
	return out
}

// read reads a function: its first place, and then in turn, with a semicolon ahead of each, the coefficients of a piece and its end behind a colon.
func read(s string) []api.Piece {
	var out []api.Piece
	parts := strings.Split(s, ";")
	from := api.Rat(strings.TrimSpace(parts[0]))
	for _, part := range parts[1:] {
		coefficients, end, _ := strings.Cut(part, ":")
		p := api.Piece{From: from, To: api.Rat(strings.TrimSpace(end))}
		for word := range strings.FieldsSeq(coefficients) {
			p.P = append(p.P, api.Rat(word))
		}
		out = append(out, p)
		from = p.To
	}
	return out
}

// same reports whether two functions have the same pieces; a nil list and an empty one are the same.
func same(l, m []api.Piece) bool {
	return slices.EqualFunc(l, m, func(p, r api.Piece) bool {
		return p.From == r.From && p.To == r.To && slices.Equal(p.P, r.P)
	})
}

// copied shares no memory with a function.
func copied(l []api.Piece) []api.Piece {
	out := slices.Clone(l)
	for i := range out {
		out[i].P = slices.Clone(out[i].P)
	}
	return out
}

// valueOfPoly returns the sum of the terms of a polynomial.
func valueOfPoly(p api.Poly, x *big.Rat) *big.Rat {
	sum, power := new(big.Rat), big.NewRat(1, 1)
	for _, c := range p {
		sum.Add(sum, new(big.Rat).Mul(rat(c), power))
		power = new(big.Rat).Mul(power, x)
	}
	return sum
}

// valueAt returns the value of the last piece whose beginning is not greater.
func valueAt(l []api.Piece, x *big.Rat) *big.Rat {
	var out *big.Rat
	for _, p := range l {
		if rat(p.From).Cmp(x) <= 0 {
			out = valueOfPoly(p.P, x)
		}
	}
	return out
}

// integralOf returns the integral of a polynomial from one place to another one.
func integralOf(p api.Poly, from, to *big.Rat) *big.Rat {
	integral := api.Poly{"0"}
	for i, c := range p {
		integral = append(integral, text(new(big.Rat).Quo(rat(c), big.NewRat(int64(i+1), 1))))
	}
	return new(big.Rat).Sub(valueOfPoly(integral, to), valueOfPoly(integral, from))
}

// randomPoly returns one of a degree at most, often a short one.
func randomPoly(source *rand.Rand, most int) api.Poly {
	p := make([]*big.Rat, source.Intn(most+2))
	for i := range p {
		p[i] = big.NewRat(max(0, source.Int63n(19)-9)-source.Int63n(2)*source.Int63n(9), 1+source.Int63n(4))
		if source.Intn(20) == 0 {
			p[i] = big.NewRat(source.Int63()-source.Int63(), 1+source.Int63n(1000000000000))
		}
	}
	return trimmed(p)
}

// randomFunction returns one from -5 to 5, with breaks of which several functions have some, pieces that have the polynomial of the one before, and pieces that go on without a jump.
func randomFunction(source *rand.Rand, pieces, most int) []api.Piece {
	breaks := map[api.Rat]bool{}
	for len(breaks) < pieces-1 {
		breaks[text(big.NewRat(source.Int63n(239)-119, 24))] = true
	}
	places := []*big.Rat{big.NewRat(-5, 1), big.NewRat(5, 1)}
	for x := range breaks {
		places = append(places, rat(x))
	}
	slices.SortFunc(places, (*big.Rat).Cmp)
	var out []api.Piece
	for i, x := range places[1:] {
		p := api.Piece{From: text(places[i]), To: text(x), P: randomPoly(source, most)}
		if i > 0 && source.Intn(4) == 0 {
			p.P = slices.Clone(out[i-1].P)
		} else if i > 0 && source.Intn(2) == 0 {
			p.P = raised(p.P, new(big.Rat).Sub(valueOfPoly(out[i-1].P, places[i]), valueOfPoly(p.P, places[i])))
		}
		out = append(out, p)
	}
	return out
}

// raised adds a constant to a polynomial.
func raised(p api.Poly, constant *big.Rat) api.Poly {
	out := []*big.Rat{constant}
	for i, c := range p {
		if i == 0 {
			out[0] = new(big.Rat).Add(constant, rat(c))
		} else {
			out = append(out, rat(c))
		}
	}
	return trimmed(out)
}

// functions returns random ones of many sizes.
func functions(seed int64, most int) [][]api.Piece {
	source := rand.New(rand.NewSource(seed))
	var out [][]api.Piece
	for _, pieces := range []int{1, 1, 2, 2, 3, 3, 4, 5, 7, 9, 20} {
		out = append(out, randomFunction(source, pieces, most))
	}
	return out
}

// asked returns places of the range at which functions are asked: those where pieces begin or end, and some between them.
func asked(l []api.Piece) []*big.Rat {
	out := []*big.Rat{rat(l[len(l)-1].To)}
	for _, p := range l {
		from, length := rat(p.From), new(big.Rat).Sub(rat(p.To), rat(p.From))
		out = append(out, from)
		for _, part := range []*big.Rat{big.NewRat(1, 2), big.NewRat(1, 1000003)} {
			x := new(big.Rat).Mul(length, part)
			out = append(out, x.Add(x, from))
		}
	}
	return out
}

// P10.1
func TestCheck(t *testing.T) {
	for _, most := range []int{0, 1, 3, api.MaxDegree} {
		for _, l := range functions(1, most) {
			if e := Check(l); e != api.OK {
				t.Errorf("%v has the error %d", l, e)
			}
		}
	}
	for _, c := range []struct {
		l    []api.Piece
		want api.Errno
	}{
		{nil, api.ErrEmpty}, {[]api.Piece{}, api.ErrEmpty}, {steps(api.MaxPieces), api.OK}, {steps(api.MaxPieces + 1), api.ErrTooLarge}, {slices.Repeat([]api.Piece{{}}, api.MaxPieces+1), api.ErrTooLarge}, {slices.Repeat([]api.Piece{{}}, api.MaxPieces), api.ErrArg},
		{read("0; 1: 1"), api.OK}, {read("-1/2; : -1/3"), api.OK}, {read("1; 1: 1"), api.ErrRange}, {read("1; 1: 0"), api.ErrRange}, {read("1/2; : 1/3"), api.ErrRange}, {read("0; 1: 1; 1: 1"), api.ErrRange}, {read("0; 1: 1; 1: 1/2; x: 1"), api.ErrRange},
		{read("0; 0: 1"), api.ErrArg}, {read("0; 1 0: 1"), api.ErrArg}, {read("0; 2/4: 1"), api.ErrArg}, {read("0; 1: x"), api.ErrArg}, {read("; 1: 1"), api.ErrArg}, {read("01; 1: 1"), api.ErrArg}, {read("0; 1:"), api.ErrArg}, {read("1; 0: 0"), api.ErrArg}, {read("0; 1: 1; 0: 2"), api.ErrArg}, {read("0; " + strings.Repeat("1 ", 18) + ": 1"), api.ErrArg}, {read("0; " + strings.Repeat("1 ", 17) + ": 1"), api.OK},
		{append(read("0; 1: 1"), read("2; 1: 3")...), api.ErrMismatch}, {append(read("0; 1: 2"), read("1; 1: 3")...), api.ErrMismatch}, {append(read("0; 1: 1"), read("2; 1: 3; x: 4")...), api.ErrMismatch}, {append(read("0; 1: 1"), read("2; x: 3")...), api.ErrArg}, {append(read("0; 1: 1"), read("2; 1: 2")...), api.ErrRange}, {append(read("0; 1: 1; x: 2"), read("5; 1: 6")...), api.ErrArg}, {append(read("0; 1: 1"), append(read("2; 1: 3"), read("3; 1: 2")...)...), api.ErrMismatch},
	} {
		if e := Check(c.l); e != c.want {
			t.Errorf("%v has the error %d instead of %d", c.l, e, c.want)
		}
	}
}

// steps returns a function with pieces of the length 1, from 0 on, that are 1 and 2 in turn.
func steps(pieces int) []api.Piece {
	var out []api.Piece
	for i := range pieces {
		out = append(out, api.Piece{From: text(big.NewRat(int64(i), 1)), To: text(big.NewRat(int64(i+1), 1)), P: api.Poly{text(big.NewRat(int64(i%2+1), 1))}})
	}
	return out
}

// P10.1, P10.5: the normal form has the same values.
func TestNormal(t *testing.T) {
	for _, l := range functions(2, 3) {
		got, e := Normal(l)
		if e != api.OK || Check(got) != api.OK || got[0].From != l[0].From || got[len(got)-1].To != l[len(l)-1].To {
			t.Errorf("the normal form of %v is %v, %d", l, got, e)
			continue
		}
		for i, p := range got[1:] {
			if slices.Equal(p.P, got[i].P) {
				t.Errorf("the normal form of %v is %v", l, got)
			}
		}
		for _, x := range asked(l) {
			if valueAt(got, x).Cmp(valueAt(l, x)) != 0 {
				t.Errorf("the normal form of %v has another value at %s", l, text(x))
			}
		}
		if again, e := Normal(got); e != api.OK || !same(again, got) {
			t.Errorf("the normal form of %v is %v, %d", got, again, e)
		}
	}
	for _, c := range [][2]string{
		{"0; 1: 1", "0; 1: 1"}, {"0; 1: 1; 1: 2", "0; 1: 2"}, {"0; 1: 1; 1 1: 2; 1: 3", "0; 1: 1; 1 1: 2; 1: 3"}, {"0; : 1; : 2; : 3; 1: 4; 1: 5; : 6", "0; : 3; 1: 5; : 6"}, {"0; 0 1: 1; 1: 2; 1: 3; 1: 4", "0; 0 1: 1; 1: 4"}, {"-1/2; 1 2: 0; 1 2: 1/3; 1 2 3: 1", "-1/2; 1 2: 1/3; 1 2 3: 1"},
	} {
		if got, e := Normal(read(c[0])); e != api.OK || !same(got, read(c[1])) {
			t.Errorf("the normal form of %s is %v, %d", c[0], got, e)
		}
	}
	if got, e := Normal([]api.Piece{{From: "0", To: "1"}, {From: "1", To: "2", P: api.Poly{}}}); e != api.OK || len(got) != 1 {
		t.Errorf("the normal form of 0 is %v, %d", got, e)
	}
}

// P10.1: also at the ends of pieces, where the later one counts, and at that of the range.
func TestEval(t *testing.T) {
	for _, l := range append(functions(3, 5), steps(api.MaxPieces)) {
		for _, x := range asked(l) {
			if got, e := Eval(l, text(x)); e != api.OK || got != text(valueAt(l, x)) {
				t.Errorf("the value of %v at %s is %s, %d", l, text(x), got, e)
			}
		}
	}
	l := read("-1; 5: 0; 0 1: 1; : 2; 7 1: 3")
	for x, want := range map[api.Rat]api.Rat{"-1": "5", "-1/2": "5", "0": "0", "1/2": "1/2", "1": "0", "2": "9", "3": "10"} {
		if got, e := Eval(l, x); e != api.OK || got != want {
			t.Errorf("the value at %s is %s, %d", x, got, e)
		}
	}
}

// P10.2, P10.5: values of products are products of values.
func TestScale(t *testing.T) {
	for _, l := range functions(4, 5) {
		for _, x := range []api.Rat{"0", "1", "-1", "2/3", "-123456789012345678901/7"} {
			got, e := Scale(l, x)
			if e != api.OK || Check(got) != api.OK || len(got) != len(l) {
				t.Errorf("%v times %s is %v, %d", l, x, got, e)
				continue
			}
			for i, p := range got {
				var want []*big.Rat
				for _, c := range l[i].P {
					want = append(want, new(big.Rat).Mul(rat(c), rat(x)))
				}
				if p.From != l[i].From || p.To != l[i].To || !slices.Equal(p.P, trimmed(want)) {
					t.Errorf("%v times %s is %v", l[i], x, p)
				}
			}
		}
	}
	top := read("0; " + strings.Repeat("1 ", 17) + ": 1; : 2; 1: 3")
	if got, e := Scale(top, "-2"); e != api.OK || !same(got, read("0; "+strings.Repeat("-2 ", 17)+": 1; : 2; -2: 3")) {
		t.Errorf("the product is %v, %d", got, e)
	}
}

// The chapter's example.
func TestExamples(t *testing.T) {
	l := read("0; 2: 1; 0 1: 3")
	if x, e := Eval(l, "1"); x != "1" || e != api.OK {
		t.Errorf("the value is %s, %d", x, e)
	}
	if places, e := Jumps(l); !slices.Equal(places, []api.Rat{"1"}) || e != api.OK {
		t.Errorf("jumps at %v, %d", places, e)
	}
	if x, e := Total(l); x != "6" || e != api.OK {
		t.Errorf("the total is %s, %d", x, e)
	}
	if got, e := Cumulate(l, "0"); e != api.OK || !reflect.DeepEqual(got, read("0; 0 2: 1; 3/2 0 1/2: 3")) {
		t.Errorf("cumulated: %v, %d", got, e)
	}
}
