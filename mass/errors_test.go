package mass

import (
	"math/rand"
	"slices"
	"sync"
	"testing"

	"garboard/api"
)

// none are strings that are no numbers.
var none = []api.Rat{"", "-0", "2/4", "1.5", "01", "1/0", "4/1", "x", "\xff", "123456789012345678901234567890/246913578024691357802469135780"}

// answer is what a function returned.
type answer struct {
	Number api.Rat
	Mass   api.Mass
	Vector api.Vector
	Area   api.Area
	Error  api.Errno
}

func number(x api.Rat, e api.Errno) answer    { return answer{Number: x, Error: e} }
func body(m api.Mass, e api.Errno) answer     { return answer{Mass: m, Error: e} }
func center(a api.Vector, e api.Errno) answer { return answer{Vector: a, Error: e} }
func flatArea(a api.Area, e api.Errno) answer { return answer{Area: a, Error: e} }

// expect checks that there is nothing but an error.
func expect(t *testing.T, what any, e api.Errno, answers ...answer) {
	t.Helper()
	for i, got := range answers {
		if got != (answer{Error: e}) {
			t.Errorf("%v: answer %d is %v instead of the error %d", what, i, got, e)
		}
	}
}

// wrongVectors returns vectors that are not valid, with what is no number at each place.
func wrongVectors() []api.Vector {
	out := []api.Vector{{}}
	for _, x := range none {
		out = append(out, api.Vector{X: x, Y: "1", Z: "1"}, api.Vector{X: "1", Y: x, Z: "1"}, api.Vector{X: "0", Y: "0", Z: x})
	}
	return out
}

// wrongPlanes returns planes that are not valid.
func wrongPlanes() []api.Plane {
	out := []api.Plane{{}, {N: point("0 0 0"), C: "0"}, {N: point("0 0 0"), C: "1"}, {N: point("0 0 0")}}
	for _, n := range wrongVectors() {
		out = append(out, api.Plane{N: n, C: "0"})
	}
	for _, x := range none {
		out = append(out, api.Plane{N: point("1 0 0"), C: x})
	}
	return out
}

// wrong returns solids that are not right, one for each error.
func wrong() map[api.Errno]api.Solid {
	l := append(corners(), point("2/4 0 0"))
	return map[api.Errno]api.Solid{
		api.ErrTooLarge: slices.Repeat(triangles(l, "abj"), api.MaxTriangles+1), api.ErrArg: triangles(l, "abj"), api.ErrOpen: triangles(l, "abc acd"),
	}
}

// rightMasses are integrals that are valid, whether they are those of a solid or not; those of the first ones have no volume.
func rightMasses() []api.Mass {
	return []api.Mass{
		{Volume: "0", Moment: point("0 0 0"), XX: "0", YY: "0", ZZ: "0", XY: "0", YZ: "0", ZX: "0"},
		{Volume: "0", Moment: point("1 2 3"), XX: "0", YY: "-1/2", ZZ: "0", XY: "0", YZ: "0", ZX: "7"},
		{Volume: "1", Moment: point("0 0 0"), XX: "0", YY: "0", ZZ: "0", XY: "0", YZ: "0", ZX: "0"},
		{Volume: "-2/3", Moment: point("1/2 123456789012345678901234567890 -5"), XX: "1", YY: "2", ZZ: "3", XY: "4", YZ: "5", ZX: "6"},
	}
}

// wrongMasses returns integrals that are not valid: with what is no number at each place, ahead of and behind numbers that are 0 and others.
func wrongMasses() []api.Mass {
	out := []api.Mass{{}}
	for _, m := range rightMasses() {
		for _, x := range none {
			for i := range 10 {
				bad := m
				*[]*api.Rat{&bad.Volume, &bad.Moment.X, &bad.Moment.Y, &bad.Moment.Z, &bad.XX, &bad.YY, &bad.ZZ, &bad.XY, &bad.YZ, &bad.ZX}[i] = x
				out = append(out, bad)
			}
		}
	}
	return out
}

// Section Errors, DOC P1: the error of mesh.Check comes ahead of that of a plane.
func TestSolidsThatAreNotRight(t *testing.T) {
	for e, s := range wrong() {
		expect(t, s, e, number(Volume(s)), body(Of(s)))
		for _, p := range append(wrongPlanes(), plane("0 0 1 1"), plane("1 2 3 4")) {
			expect(t, s, e, body(Below(s, p)))
		}
	}
}

// Section Errors
func TestPlanesThatAreNotValid(t *testing.T) {
	for _, s := range []api.Solid{nil, box(t, "0 0 0", "1 1 1"), slices.Repeat(triangles(corners(), "abd adb"), 256)} {
		for _, p := range wrongPlanes() {
			expect(t, p, api.ErrArg, body(Below(s, p)))
		}
	}
}

// Section Errors: integrals, numbers and vectors; also ahead of a volume that is 0.
func TestIntegralsThatAreNotValid(t *testing.T) {
	for _, m := range wrongMasses() {
		expect(t, m, api.ErrArg, center(Center(m)), body(Add(m, m)), body(Scale(m, "0")), body(Scale(m, "2")), body(Scale(m, "x")), body(Move(m, point("0 0 0"))), body(Move(m, point("1 1 1"))), body(Move(m, api.Vector{})))
		for _, n := range rightMasses() {
			expect(t, m, api.ErrArg, body(Add(m, n)), body(Add(n, m)))
		}
	}
	for _, m := range rightMasses() {
		for _, x := range none {
			expect(t, x, api.ErrArg, body(Scale(m, x)))
		}
		for _, v := range wrongVectors() {
			expect(t, v, api.ErrArg, body(Move(m, v)))
		}
	}
	for _, m := range rightMasses()[:2] {
		expect(t, m, api.ErrZero, center(Center(m)))
	}
}

// Section Errors: the number of edges comes ahead of what they are, and this ahead of their being open.
func TestSectionsThatAreNotRight(t *testing.T) {
	l := append(points("0 0 0, 1 0 0, 1 1 0, 0 1 0"), point("2/4 0 0"))
	x, y := point("1 0 0"), point("0 1 0")
	for _, v := range append(wrongVectors(), x) {
		for _, edges := range []string{"ab", "ab ba", "ee", "ab bc cd da"} {
			expect(t, edges, api.ErrTooLarge, flatArea(Section(slices.Repeat(segments(l, edges), 513), v, y)), flatArea(Section(slices.Repeat(segments(l, edges), 513), y, v)))
		}
	}
	for _, v := range wrongVectors() {
		for _, edges := range []string{"", "ab", "ab bc cd da", "ee"} {
			expect(t, v, api.ErrArg, flatArea(Section(segments(l, edges), v, y)), flatArea(Section(segments(l, edges), y, v)), flatArea(Section(segments(l, edges), v, v)))
		}
		for _, edges := range [][]api.Segment{{{v, l[0]}, {l[0], v}}, {{l[0], v}, {v, l[0]}}, {{v, v}}, {{l[0], l[1]}, {l[1], v}}, {{l[0], l[1]}, {l[1], l[0]}, {v, l[2]}}, {{l[0], l[1]}, {v, l[0]}}} {
			expect(t, edges, api.ErrArg, flatArea(Section(edges, x, y)), flatArea(Section(edges, point("0 0 0"), point("0 0 0"))))
		}
	}
	for _, edges := range []string{"ab", "ab bc cd", "ab bc cd ad", "ab ab", "ab bc ca ab", "aa ab", "ba ab ab", "ab cd", "ab ba cd"} {
		for _, v := range points("1 0 0, 0 0 0, 0 0 1") {
			expect(t, edges, api.ErrOpen, flatArea(Section(segments(l, edges), v, y)), flatArea(Section(segments(l, edges), v, v)))
		}
	}
	expect(t, "many that are open", api.ErrOpen, flatArea(Section(slices.Repeat(segments(l, "ab"), 512), x, y)))
}

// askAll calls every function.
func askAll(s api.Solid, p api.Plane, l []api.Segment) []answer {
	m := right(Of(s))
	return []answer{number(Volume(s)), body(Of(s)), body(Below(s, p)), body(Add(m, m)), body(Scale(m, p.C)), body(Move(m, p.N)), center(Center(m)), flatArea(Section(l, p.N, point("1 2 3")))}
}

// The chapter, DOC P2, P3, section Rules: calls at once, and in any order, return what calls alone return, and change no arguments.
func TestCallsAtOnce(t *testing.T) {
	source := rand.New(rand.NewSource(9))
	solids := someSolids(t)
	var planes []api.Plane
	var sections [][]api.Segment
	for _, s := range solids {
		planes = append(planes, somePlanes(t, source, s)[6])
		sections = append(sections, loops(source))
	}
	ask := func(i int) []answer {
		s, l := slices.Clone(solids[i]), slices.Clone(sections[i])
		out := askAll(s, planes[i], l)
		if !slices.Equal(s, solids[i]) || !slices.Equal(l, sections[i]) {
			t.Errorf("%v or %v has changed", solids[i], sections[i])
		}
		return out
	}
	var alone [][]answer
	for i := range solids {
		alone = append(alone, ask(i))
	}
	var group sync.WaitGroup
	for range 4 {
		group.Go(func() {
			for i := len(solids) - 1; i >= 0; i-- {
				if again := askAll(solids[i], planes[i], sections[i]); !slices.Equal(again, alone[i]) {
					t.Errorf("%v: %v and %v", solids[i], again, alone[i])
				}
			}
		})
	}
	group.Wait()
}
