package float

import (
	"slices"
	"sync"
	"testing"

	"garboard/api"
)

// none are strings that are no numbers.
var none = []api.Rat{"", "-0", "2/4", "1.5", "01", "1/0", "4/1", "x", "\xff", "123456789012345678901234567890/246913578024691357802469135780"}

// answer is what a function returned.
type answer struct {
	Number api.Rat
	Vector api.Vector
	Area   api.Area
	Error  api.Errno
}

func number(x api.Rat, e api.Errno) answer   { return answer{Number: x, Error: e} }
func place(r api.Vector, e api.Errno) answer { return answer{Vector: r, Error: e} }
func plane(x api.Area, e api.Errno) answer   { return answer{Area: x, Error: e} }

// askAll calls every function.
func askAll(s api.Solid, a api.Attitude, d api.Rat) []answer {
	return []answer{number(Volume(s, a, d)), number(Emerged(s, a, d)), place(Moments(s, a, d)), place(Centre(s, a, d)), plane(Waterplane(s, a, d))}
}

// expect checks that there is nothing but an error.
func expect(t *testing.T, what any, e api.Errno, answers ...answer) {
	t.Helper()
	for i, got := range answers {
		if got != (answer{Error: e}) {
			t.Errorf("%v: answer %d is %v instead of the error %d", what, i, got, e)
		}
	}
}

// wrongPoints are points that are not valid, with what is no number at each place.
func wrongPoints() []api.Vector {
	out := []api.Vector{{}}
	for _, x := range none {
		out = append(out, api.Vector{X: x, Y: "1", Z: "1"}, api.Vector{X: "1", Y: x, Z: "1"}, api.Vector{X: "0", Y: "0", Z: x})
	}
	return out
}

// wrongAttitudes have what is no number, also beside a number that is out of range.
func wrongAttitudes() []api.Attitude {
	var out []api.Attitude
	for _, x := range none {
		for _, y := range []api.Rat{"0", "1/3", "2", "-5", x} {
			out = append(out, api.Attitude{Heel: x, Trim: y}, api.Attitude{Heel: y, Trim: x})
		}
	}
	return out
}

// farAttitudes are out of range.
func farAttitudes() []api.Attitude {
	return []api.Attitude{at("2 0"), at("-2 0"), at("1000000000000000000001/1000000000000000000000 0"), at("-9/8 1/2"), at("0 1"), at("0 -1"), at("1 501/1000"), at("-1 -501/1000"), at("7 7")}
}

// open returns solids that are not closed.
func open(t *testing.T) []api.Solid {
	t.Helper()
	s, a, b := example(t), point("1 0 0"), point("0 1 0")
	return []api.Solid{s[1:], s[:11], append(slices.Clone(s), s[0]), {{a, b, point("0 0 0")}}, {{a, a, b}, {a, b, b}, {a, b, a}, {b, point("0 0 0"), a}}}
}

// Section Errors: the number of triangles comes ahead of all others.
func TestNumbersOfTriangles(t *testing.T) {
	for _, a := range slices.Concat(wrongAttitudes()[:6], farAttitudes(), attitudes()) {
		for _, d := range []api.Rat{"1", "x"} {
			expect(t, a, api.ErrEmpty, askAll(nil, a, d)...)
			expect(t, a, api.ErrEmpty, askAll(api.Solid{}, a, d)...)
			for _, r := range append(wrongPoints()[:5], point("1 2 3")) {
				expect(t, a, api.ErrTooLarge, askAll(slices.Repeat(api.Solid{{r, r, point("0 0 0")}}, api.MaxTriangles+1), a, d)...)
			}
		}
	}
}

// Section Errors: numbers that are not valid come ahead of attitudes out of range, and of solids that are not closed.
func TestNumbersThatAreNotValid(t *testing.T) {
	for _, s := range append(open(t), example(t)) {
		for _, a := range wrongAttitudes() {
			expect(t, a, api.ErrArg, askAll(s, a, "1")...)
		}
		for _, a := range append(farAttitudes(), at("0 0"), at("1/2 1/3")) {
			for _, d := range none {
				expect(t, d, api.ErrArg, askAll(s, a, d)...)
			}
			for _, r := range wrongPoints() {
				for i := range s[0] {
					other := slices.Clone(s)
					other[len(other)-1][i] = r
					expect(t, r, api.ErrArg, askAll(other, a, "1")...)
				}
			}
		}
	}
	for _, r := range wrongPoints() {
		expect(t, r, api.ErrArg, askAll(api.Solid{{r, r, r}}, at("0 0"), "1")...)
	}
}

// Section Errors: attitudes out of range come ahead of solids that are not closed.
func TestAttitudesOutOfRange(t *testing.T) {
	for _, s := range append(open(t), example(t)) {
		for _, a := range farAttitudes() {
			expect(t, a, api.ErrRange, askAll(s, a, "1")...)
		}
	}
}

// Section Errors: also if no triangle that is missing is in the water, or all are.
func TestSolidsThatAreNotClosed(t *testing.T) {
	for _, s := range open(t) {
		for _, a := range attitudes() {
			for _, d := range []api.Rat{"0", "1", "-100", "100"} {
				expect(t, s, api.ErrOpen, askAll(s, a, d)...)
			}
		}
	}
}

// Section Errors: parts without volume have no centre, whether they are flat or two volumes are opposite.
func TestPartsWithoutVolume(t *testing.T) {
	s := example(t)
	back := box(t, "0 -2 1", "10 2 2")
	for i, triangle := range back {
		back[i] = api.Triangle{triangle[0], triangle[2], triangle[1]}
	}
	opposite := slices.Concat(back, box(t, "20 -2 1", "30 2 2"))
	for _, c := range []struct {
		s api.Solid
		d api.Rat
	}{{s, "0"}, {s, "-1/1000000000000000000000"}, {back, "1"}, {opposite, "3/2"}, {opposite, "5"}} {
		expect(t, c.d, api.ErrZero, place(Centre(c.s, at("0 0"), c.d)))
		if got, e := Volume(c.s, at("0 0"), c.d); e != api.OK || got != "0" {
			t.Errorf("%s: the volume %s, %d", c.d, got, e)
		}
	}
	if got, e := Moments(opposite, at("0 0"), "3/2"); e != api.OK || got != point("400 0 0") {
		t.Errorf("the moments %v, %d", got, e)
	}
}

// DOC P2, P3, section Rules: calls at once, and in any order, return what calls alone return, and change no arguments.
func TestCallsAtOnce(t *testing.T) {
	type call struct {
		s api.Solid
		a api.Attitude
		d api.Rat
	}
	var calls []call
	for _, s := range bodies(t)[:9] {
		for _, a := range attitudes()[:5] {
			calls = append(calls, call{s, a, levels(t, s, a)[6]})
		}
	}
	var alone [][]answer
	for _, c := range calls {
		before := slices.Clone(c.s)
		alone = append(alone, askAll(c.s, c.a, c.d))
		if !slices.Equal(before, c.s) {
			t.Errorf("%v has become %v", before, c.s)
		}
	}
	var group sync.WaitGroup
	for range 4 {
		group.Go(func() {
			for i, c := range slices.Backward(calls) {
				if again := askAll(c.s, c.a, c.d); !slices.Equal(again, alone[i]) {
					t.Errorf("%v: %v and %v", c, again, alone[i])
				}
			}
		})
	}
	group.Wait()
}
