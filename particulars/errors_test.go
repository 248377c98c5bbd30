package particulars

import (
	"slices"
	"sync"
	"testing"

	"garboard/api"
	"garboard/float"
)

// none are strings that are no numbers.
var none = []api.Rat{"", "-0", "2/4", "1.5", "01", "1/0", "4/1", "x", "\xff", "123456789012345678901234567890/246913578024691357802469135780"}

// answer is what a function returned.
type answer struct {
	Hydro         api.Hydro
	First, Second api.Rat
	Error         api.Errno
}

func all(h api.Hydro, e api.Errno) answer   { return answer{Hydro: h, Error: e} }
func number(x api.Rat, e api.Errno) answer  { return answer{First: x, Error: e} }
func both(x, y api.Rat, e api.Errno) answer { return answer{First: x, Second: y, Error: e} }

// rest are the arguments of the functions beside particulars.
type rest struct {
	a                     api.Attitude
	g                     api.Vector
	density, mass, length api.Rat
}

// right are arguments that are in range.
func right() rest { return rest{at("1/3 -1/5"), point("1 2 3"), "41/40", "-7", "100"} }

// askAll calls every function that takes particulars.
func askAll(h api.Hydro, r rest) []answer {
	return []answer{both(Radii(h)), both(Metacentric(h, r.a, r.g)), number(Immersion(h, r.density)), number(Sinkage(h, r.density, r.mass)), number(Change(h, r.a, r.g, r.density, r.length))}
}

// expect checks that there is nothing but an error.
func expect(t *testing.T, what any, e api.Errno, answers ...answer) {
	t.Helper()
	for i, got := range answers {
		if got != (answer{Error: e}) {
			t.Errorf("%v: answer %d is %v instead of the error %d", what, i, got, e)
		}
	}
}

// wrongPoints are points that are not valid, with what is no number at each place.
func wrongPoints() []api.Vector {
	out := []api.Vector{{}}
	for _, x := range none {
		out = append(out, api.Vector{X: x, Y: "1", Z: "1"}, api.Vector{X: "1", Y: x, Z: "1"}, api.Vector{X: "0", Y: "0", Z: x})
	}
	return out
}

// wrongAttitudes have what is no number, also beside a number that is out of range.
func wrongAttitudes() []api.Attitude {
	var out []api.Attitude
	for _, x := range none {
		out = append(out, api.Attitude{Heel: x, Trim: "0"}, api.Attitude{Heel: "0", Trim: x}, api.Attitude{Heel: x, Trim: "3"}, api.Attitude{Heel: "-3", Trim: x})
	}
	return out
}

// farAttitudes are out of range.
func farAttitudes() []api.Attitude {
	return []api.Attitude{at("2 0"), at("-9/8 1/2"), at("1000000000000000000001/1000000000000000000000 0"), at("0 1"), at("1 501/1000"), at("0 -2/3")}
}

// withoutVolume and withoutArea are particulars in which nothing else is wrong.
const (
	withoutVolume = "0 1 2 3 4 5 6 7 8 9"
	withoutArea   = "1 2 3 4 0 5 6 7 8 9"
)

// P18.1, section Errors: first those of float.Volume, in their order.
func TestErrorsOfSolids(t *testing.T) {
	s := box(t, "0 -2 0", "10 2 3")
	bad := slices.Clone(s)
	bad[11][2].Z = "2/4"
	for _, solid := range []api.Solid{nil, slices.Repeat(s[:1], api.MaxTriangles+1), bad, s[1:], s} {
		for _, a := range slices.Concat(wrongAttitudes()[:8], farAttitudes(), attitudes()) {
			for _, d := range []api.Rat{"1", "-1", "x", ""} {
				if _, e := float.Volume(solid, a, d); e != api.OK {
					expect(t, a, e, all(Of(solid, a, d)))
				} else if d == "-1" && a == at("0 0") {
					expect(t, a, api.ErrZero, all(Of(solid, a, d)))
				}
			}
		}
	}
	expect(t, "no triangles", api.ErrEmpty, all(Of(nil, at("5 5"), "x")))
	expect(t, "many triangles", api.ErrTooLarge, all(Of(slices.Repeat(bad, 100), at("5 5"), "x")))
	expect(t, "a point", api.ErrArg, all(Of(bad, at("5 5"), "1")))
	expect(t, "the level", api.ErrArg, all(Of(s[1:], at("5 5"), "x")))
	expect(t, "the attitude", api.ErrRange, all(Of(s[1:], at("5 5"), "1")))
	expect(t, "an open solid", api.ErrOpen, all(Of(s[1:], at("0 0"), "-5")))
}

// P18.1, section Errors: nothing is in the water, or there is no waterplane, because all is, or because two are opposite.
func TestNothingInTheWater(t *testing.T) {
	s := box(t, "0 -2 0", "10 2 3")
	opposite := box(t, "20 -2 1", "30 2 3")
	for i, triangle := range opposite {
		opposite[i] = api.Triangle{triangle[0], triangle[2], triangle[1]}
	}
	for _, c := range []struct {
		s    api.Solid
		a, d string
	}{
		{s, "0 0", "0"}, {s, "0 0", "-1"}, {s, "0 0", "3"}, {s, "0 0", "4"}, {s, "1/2 0", "-8/5"}, {s, "1/2 0", "17/5"}, {s, "0 1/2", "10"},
		{slices.Concat(s, opposite), "0 0", "2"},
		{slices.Concat(box(t, "0 -2 0", "10 2 2"), opposite), "0 0", "3"},
		{slices.Concat(box(t, "0 -2 1", "10 4 3"), opposite, opposite, box(t, "0 -2 1", "10 0 3")), "0 0", "2"},
	} {
		expect(t, c, api.ErrZero, all(Of(c.s, at(c.a), api.Rat(c.d))))
	}
}

// Section Errors: every number is asked, ahead of ranges and divisors.
func TestNumbersThatAreNotValid(t *testing.T) {
	far := rest{at("2 1"), point("1 2 3"), "0", "0", "-1"}
	for _, s := range []string{"1 2 3 4 5 6 7 8 9 10", withoutVolume, withoutArea, "0 0 0 0 0 0 0 0 0 0"} {
		for i := range 10 {
			for _, x := range none {
				h := hydro(s)
				*fields(&h)[i] = x
				expect(t, h, api.ErrArg, askAll(h, right())...)
				expect(t, h, api.ErrArg, askAll(h, far)...)
			}
		}
		h := hydro(s)
		for _, r := range []rest{right(), far} {
			for _, g := range wrongPoints() {
				expect(t, g, api.ErrArg, both(Metacentric(h, r.a, g)), number(Change(h, r.a, g, r.density, r.length)))
			}
			for _, a := range wrongAttitudes() {
				expect(t, a, api.ErrArg, both(Metacentric(h, a, r.g)), number(Change(h, a, r.g, r.density, r.length)))
			}
			for _, x := range none {
				expect(t, x, api.ErrArg, number(Immersion(h, x)), number(Sinkage(h, x, r.mass)), number(Sinkage(h, r.density, x)), number(Change(h, r.a, r.g, x, r.length)), number(Change(h, r.a, r.g, r.density, x)))
			}
		}
	}
	expect(t, "no particulars", api.ErrArg, askAll(api.Hydro{}, right())...)
}

// Section Errors: ranges come ahead of divisors.
func TestNumbersOutOfRange(t *testing.T) {
	r := right()
	for _, s := range []string{"1 2 3 4 5 6 7 8 9 10", withoutVolume, withoutArea} {
		h := hydro(s)
		for _, a := range farAttitudes() {
			expect(t, a, api.ErrRange, both(Metacentric(h, a, r.g)), number(Change(h, a, r.g, r.density, r.length)), number(Change(h, a, r.g, "0", "0")))
		}
		for _, x := range []api.Rat{"0", "-1", "-1/1000000000000000000000", "-123456789012345678901234567890"} {
			expect(t, x, api.ErrRange, number(Immersion(h, x)), number(Sinkage(h, x, r.mass)), number(Change(h, r.a, r.g, x, r.length)), number(Change(h, r.a, r.g, r.density, x)), number(Change(h, r.a, r.g, x, x)))
		}
	}
}

// Section Errors
func TestDivisorsThatAreZero(t *testing.T) {
	r := right()
	expect(t, "no volume", api.ErrZero, both(Radii(hydro(withoutVolume))), both(Metacentric(hydro(withoutVolume), r.a, r.g)), number(Change(hydro(withoutVolume), r.a, r.g, r.density, r.length)))
	expect(t, "no area", api.ErrZero, number(Sinkage(hydro(withoutArea), r.density, r.mass)), number(Sinkage(hydro(withoutArea), "1/1000000000000", "0")))
}

// DOC P2, P3, section Rules: calls at once, and in any order, return what calls alone return, and change no arguments.
func TestCallsAtOnce(t *testing.T) {
	type call struct {
		s api.Solid
		a api.Attitude
		d api.Rat
	}
	var calls []call
	for _, s := range hulls(t) {
		for _, a := range attitudes()[:4] {
			calls = append(calls, call{s, a, levels(t, s, a)[1]})
		}
	}
	ask := func(c call) []answer {
		h, e := Of(c.s, c.a, c.d)
		return append(askAll(h, right()), all(h, e))
	}
	var alone [][]answer
	for _, c := range calls {
		before := slices.Clone(c.s)
		alone = append(alone, ask(c))
		if !slices.Equal(before, c.s) {
			t.Errorf("%v has become %v", before, c.s)
		}
	}
	var group sync.WaitGroup
	for range 4 {
		group.Go(func() {
			for i, c := range slices.Backward(calls) {
				if again := ask(c); !slices.Equal(again, alone[i]) {
					t.Errorf("%v: %v and %v", c, again, alone[i])
				}
			}
		})
	}
	group.Wait()
}
