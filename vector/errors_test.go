package vector

import (
	"math/rand"
	"slices"
	"sync"
	"testing"

	"garboard/api"
)

// answer is what a function returned.
type answer struct {
	Is     bool
	Vector api.Vector
	Number api.Rat
	Side   int
	Plane  api.Plane
	Range  api.Interval
	Error  api.Errno
}

func vector(a api.Vector, e api.Errno) answer      { return answer{Vector: a, Error: e} }
func number(x api.Rat, e api.Errno) answer         { return answer{Number: x, Error: e} }
func side(n int, e api.Errno) answer               { return answer{Side: n, Error: e} }
func plane(p api.Plane, e api.Errno) answer        { return answer{Plane: p, Error: e} }
func interval(in api.Interval, e api.Errno) answer { return answer{Range: in, Error: e} }

// expect checks that there is nothing but an error.
func expect(t *testing.T, what any, e api.Errno, answers ...answer) {
	t.Helper()
	for i, got := range answers {
		if got != (answer{Error: e}) {
			t.Errorf("%v: answer %d is %v instead of the error %d", what, i, got, e)
		}
	}
}

// right are vectors that are valid.
var right = []api.Vector{{X: "0", Y: "0", Z: "0"}, {X: "1", Y: "2", Z: "3"}, {X: "-1/2", Y: "0", Z: "123456789012345678901234567890"}}

// wrong returns vectors that are not valid, with what is no number at each place.
func wrong() []api.Vector {
	out := []api.Vector{{}}
	for _, x := range none {
		for _, y := range []api.Rat{"0", "5/3"} {
			out = append(out, api.Vector{X: x, Y: y, Z: y}, api.Vector{X: y, Y: x, Z: y}, api.Vector{X: y, Y: y, Z: x})
		}
	}
	return out
}

// Section Errors, DOC P1: also where other arguments are zero, or lie on one line.
func TestVectorsThatAreNotValid(t *testing.T) {
	up := api.Plane{N: api.Vector{X: "0", Y: "0", Z: "1"}, C: "1"}
	for _, a := range wrong() {
		expect(t, a, api.ErrArg, vector(Scale(a, "1")), vector(Scale(a, "0")), side(Side(up, a)), vector(Crossing(up, a, a)))
		expect(t, a, api.ErrArg, plane(Through(a, a, a)), number(Det(a, a, a)), interval(Range([]api.Vector{a}, a)))
		for _, b := range right {
			expect(t, a, api.ErrArg, vector(Add(a, b)), vector(Add(b, a)), vector(Sub(a, b)), vector(Sub(b, a)), number(Dot(a, b)), number(Dot(b, a)), vector(Cross(a, b)), vector(Cross(b, a)))
			expect(t, a, api.ErrArg, number(Det(a, b, b)), number(Det(b, a, b)), number(Det(b, b, a)), number(Det(a, a, b)))
			expect(t, a, api.ErrArg, plane(Through(a, b, b)), plane(Through(b, a, b)), plane(Through(b, b, a)), plane(Through(a, a, b)), plane(Through(b, a, a)))
			expect(t, a, api.ErrArg, vector(Crossing(up, a, b)), vector(Crossing(up, b, a)))
			expect(t, a, api.ErrArg, interval(Range([]api.Vector{a}, b)), interval(Range([]api.Vector{b}, a)), interval(Range([]api.Vector{b, b, a, b}, b)))
		}
	}
}

// Section Errors
func TestNumbersThatAreNotValid(t *testing.T) {
	for _, x := range none {
		for _, a := range right {
			expect(t, x, api.ErrArg, vector(Scale(a, x)), side(Side(api.Plane{N: right[1], C: x}, a)))
			for _, b := range right {
				expect(t, x, api.ErrArg, vector(Crossing(api.Plane{N: right[1], C: x}, a, b)))
			}
		}
	}
}

// Section Errors: planes without a direction are not valid.
func TestPlanesThatAreNotValid(t *testing.T) {
	bad := []api.Plane{{}, {N: right[0], C: "0"}, {N: right[0], C: "1"}, {N: right[0], C: "x"}}
	for _, n := range wrong() {
		bad = append(bad, api.Plane{N: n, C: "0"})
	}
	for _, p := range bad {
		for _, a := range append(wrong()[:3], right...) {
			expect(t, p, api.ErrArg, side(Side(p, a)))
			for _, b := range right {
				expect(t, p, api.ErrArg, vector(Crossing(p, a, b)))
			}
		}
	}
}

// Section Errors: the size of a list comes ahead of what is in it, and of the vector.
func TestListsOfTheWrongSize(t *testing.T) {
	for _, a := range append(wrong(), right...) {
		for _, p := range append(wrong(), right...) {
			tooMany := slices.Repeat([]api.Vector{p}, 1537)
			expect(t, a, api.ErrTooLarge, interval(Range(tooMany, a)))
		}
		expect(t, a, api.ErrEmpty, interval(Range(nil, a)), interval(Range([]api.Vector{}, a)))
	}
	last := append(slices.Repeat(right[:1], 1535), wrong()[1])
	expect(t, "the last one", api.ErrArg, interval(Range(last, right[1])))
}

// askAll calls every function with vectors of a list.
func askAll(l []api.Vector, i int) []answer {
	a, b, c := l[i], l[(i+1)%len(l)], l[(i+2)%len(l)]
	p := api.Plane{N: c, C: a.Z}
	return []answer{{Is: Valid(a)}, vector(Add(a, b)), vector(Sub(a, b)), vector(Scale(a, b.X)), number(Dot(a, b)), vector(Cross(a, b)), number(Det(a, b, c)), side(Side(p, b)), plane(Through(a, b, c)), vector(Crossing(p, a, b)), interval(Range(l, a))}
}

// DOC P2, P3, section Rules: calls at once, and in any order, return what calls alone return, and change no arguments.
func TestCallsAtOnce(t *testing.T) {
	var vectors []api.Vector
	for _, a := range random(rand.New(rand.NewSource(9)), 40) {
		vectors = append(vectors, made(a))
	}
	before := slices.Clone(vectors)
	var alone [][]answer
	for i := range vectors {
		alone = append(alone, askAll(vectors, i))
	}
	var group sync.WaitGroup
	for range 4 {
		group.Go(func() {
			for i := len(vectors) - 1; i >= 0; i-- {
				if again := askAll(vectors, i); !slices.Equal(again, alone[i]) {
					t.Errorf("%v: %v and %v", vectors[i], again, alone[i])
				}
			}
		})
	}
	group.Wait()
	if !slices.Equal(vectors, before) {
		t.Error("arguments have changed")
	}
}
