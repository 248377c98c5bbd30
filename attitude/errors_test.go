package attitude

import (
	"math/rand"
	"slices"
	"sync"
	"testing"

	"garboard/api"
)

// none are strings that are no numbers.
var none = []api.Rat{"", "-0", "2/4", "0.5", "01", "1/0", "4/1", "x", "\xff", "123456789012345678901234567890/246913578024691357802469135780"}

// answer is what a function returned.
type answer struct {
	Frame    api.Frame
	Plane    api.Plane
	Vector   api.Vector
	Attitude api.Attitude
	Spot     api.Spot
	Error    api.Errno
}

func frames(f api.Frame, e api.Errno) answer      { return answer{Frame: f, Error: e} }
func plane(p api.Plane, e api.Errno) answer       { return answer{Plane: p, Error: e} }
func vector(r api.Vector, e api.Errno) answer     { return answer{Vector: r, Error: e} }
func attitude(a api.Attitude, e api.Errno) answer { return answer{Attitude: a, Error: e} }
func spot(s api.Spot, e api.Errno) answer         { return answer{Spot: s, Error: e} }

// askAll calls every function.
func askAll(a api.Attitude, d api.Rat, r api.Vector, s api.Solid) []answer {
	return []answer{{Error: Check(a)}, frames(Of(a)), attitude(Mirror(a)), plane(Water(a, d)), vector(Turn(a, r)), vector(Back(a, r)), spot(Extent(s, a))}
}

// expect checks that there is nothing but an error.
func expect(t *testing.T, what any, e api.Errno, answers ...answer) {
	t.Helper()
	for i, got := range answers {
		if got != (answer{Error: e}) {
			t.Errorf("%v: answer %d is %v instead of the error %d", what, i, got, e)
		}
	}
}

// wrongPoints returns points that are not valid, with what is no number at each place.
func wrongPoints() []api.Vector {
	out := []api.Vector{{}}
	for _, x := range none {
		out = append(out, api.Vector{X: x, Y: "1", Z: "1"}, api.Vector{X: "0", Y: x, Z: "0"}, api.Vector{X: "1", Y: "0", Z: x})
	}
	return out
}

// wrongAttitudes returns attitudes with what is no number, also where the other number is out of range.
func wrongAttitudes() []api.Attitude {
	var out []api.Attitude
	for _, x := range none {
		for _, y := range []api.Rat{"0", "1/3", "1", "2", "-5", x} {
			out = append(out, api.Attitude{Heel: x, Trim: y}, api.Attitude{Heel: y, Trim: x})
		}
	}
	return out
}

// farAttitudes returns attitudes out of range.
func farAttitudes() []api.Attitude {
	var out []api.Attitude
	for _, p := range []api.Rat{"2", "-2", "3/2", "-9/8", "10", "1000000000000000000001/1000000000000000000000", "-1000000000000000000001/1000000000000000000000"} {
		for _, q := range []api.Rat{"0", "1/2", "-1/2", "1"} {
			out = append(out, api.Attitude{Heel: p, Trim: q})
		}
	}
	for _, q := range []api.Rat{"1", "-1", "2/3", "-3/5", "7", "500000000000000000001/1000000000000000000000", "-500000000000000000001/1000000000000000000000"} {
		for _, p := range []api.Rat{"0", "1", "-1", "1/3"} {
			out = append(out, api.Attitude{Heel: p, Trim: q})
		}
	}
	return out
}

// Section Errors: numbers that are not valid come ahead of attitudes that are out of range.
func TestNumbersThatAreNotValid(t *testing.T) {
	o := point("0 0 0")
	for _, a := range wrongAttitudes() {
		for _, r := range append(wrongPoints()[:5], o, point("1 2 3")) {
			expect(t, a, api.ErrArg, askAll(a, r.X, r, api.Solid{{o, r, o}})...)
		}
	}
	for _, a := range append(farAttitudes(), attitudes(rand.New(rand.NewSource(8)))[:30]...) {
		for _, r := range wrongPoints() {
			expect(t, r, api.ErrArg, vector(Turn(a, r)), vector(Back(a, r)))
			expect(t, r, api.ErrArg, spot(Extent(api.Solid{{r, o, o}}, a)), spot(Extent(api.Solid{{o, r, o}}, a)), spot(Extent(api.Solid{{o, o, o}, {o, o, r}}, a)), spot(Extent(slices.Repeat(api.Solid{{o, o, r}}, api.MaxTriangles), a)))
		}
		for _, d := range none {
			expect(t, d, api.ErrArg, plane(Water(a, d)))
		}
	}
}

// P16.1, section Errors
func TestAttitudesOutOfRange(t *testing.T) {
	o := point("0 0 0")
	for _, a := range farAttitudes() {
		expect(t, a, api.ErrRange, askAll(a, "1", o, api.Solid{{o, o, o}})...)
	}
}

// Section Errors: the size of a solid comes ahead of all others.
func TestSolidsOfTheWrongSize(t *testing.T) {
	o := point("0 0 0")
	for _, a := range slices.Concat(wrongAttitudes(), farAttitudes(), []api.Attitude{{Heel: "0", Trim: "0"}}) {
		expect(t, a, api.ErrEmpty, spot(Extent(nil, a)), spot(Extent(api.Solid{}, a)))
		for _, r := range append(wrongPoints()[:5], o) {
			expect(t, a, api.ErrTooLarge, spot(Extent(slices.Repeat(api.Solid{{o, r, o}}, api.MaxTriangles+1), a)), spot(Extent(slices.Repeat(api.Solid{{r, r, r}}, 2000), a)))
		}
	}
}

// DOC P2, P3, section Rules: calls at once, and in any order, return what calls alone return, and change no arguments.
func TestCallsAtOnce(t *testing.T) {
	source := rand.New(rand.NewSource(9))
	all, l, bodies := attitudes(source), points(source, 20), solids(source)
	var before []api.Solid
	for _, s := range bodies {
		before = append(before, slices.Clone(s))
	}
	ask := func(i int) []answer {
		return askAll(all[i], l[i%len(l)].Z, l[i%len(l)], bodies[i%len(bodies)])
	}
	var alone [][]answer
	for i := range all {
		alone = append(alone, ask(i))
	}
	var group sync.WaitGroup
	for range 4 {
		group.Go(func() {
			for i := len(all) - 1; i >= 0; i-- {
				if again := ask(i); !slices.Equal(again, alone[i]) {
					t.Errorf("%v: %v and %v", all[i], again, alone[i])
				}
			}
		})
	}
	group.Wait()
	for i, s := range bodies {
		if !slices.Equal(s, before[i]) {
			t.Error("a solid has changed")
		}
	}
}
