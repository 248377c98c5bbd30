package clip

import (
	"math/rand"
	"reflect"
	"slices"
	"sync"
	"testing"

	"garboard/api"
	"garboard/mesh"
)

// none are strings that are no numbers.
var none = []api.Rat{"", "-0", "2/4", "1.5", "01", "1/0", "4/1", "x", "\xff", "123456789012345678901234567890/246913578024691357802469135780"}

// answer is what a function returned.
type answer struct {
	Solid    api.Solid
	Section  []api.Segment
	Sections [][]api.Segment
	Error    api.Errno
}

func solid(s api.Solid, e api.Errno) answer          { return answer{Solid: s, Error: e} }
func section(l []api.Segment, e api.Errno) answer    { return answer{Section: l, Error: e} }
func sections(l [][]api.Segment, e api.Errno) answer { return answer{Sections: l, Error: e} }
func byPlane(s api.Solid, p api.Plane) []answer {
	return []answer{solid(Below(s, p)), solid(Above(s, p)), section(Section(s, p))}
}
func along(s api.Solid, n api.Vector, a, b api.Rat) []answer {
	return []answer{solid(Between(s, n, a, b)), sections(Slices(s, n, []api.Rat{a, b}))}
}

// expect checks that there is nothing but an error.
func expect(t *testing.T, what any, e api.Errno, answers ...answer) {
	t.Helper()
	for i, got := range answers {
		if !reflect.DeepEqual(got, answer{Error: e}) {
			t.Errorf("%v: answer %d is %v instead of the error %d", what, i, got, e)
		}
	}
}

// wrongVectors returns vectors that are not valid, with what is no number at each place.
func wrongVectors() []api.Vector {
	out := []api.Vector{{}}
	for _, x := range none {
		out = append(out, api.Vector{X: x, Y: "1", Z: "1"}, api.Vector{X: "1", Y: x, Z: "1"}, api.Vector{X: "0", Y: "0", Z: x})
	}
	return out
}

// wrongPlanes returns planes that are not valid.
func wrongPlanes() []api.Plane {
	out := []api.Plane{{}, {N: point("0 0 0"), C: "0"}, {N: point("0 0 0"), C: "1"}, {N: point("0 0 0")}}
	for _, n := range wrongVectors() {
		out = append(out, api.Plane{N: n, C: "0"})
	}
	for _, x := range none {
		out = append(out, api.Plane{N: point("1 0 0"), C: x})
	}
	return out
}

// wrong returns solids that are not right, one for each error.
func wrong() map[api.Errno]api.Solid {
	l := append(corners(), point("2/4 0 0"))
	return map[api.Errno]api.Solid{
		api.ErrTooLarge: slices.Repeat(triangles(l, "abj"), api.MaxTriangles+1), api.ErrArg: triangles(l, "abj"), api.ErrOpen: triangles(l, "abc acd"),
	}
}

// Section Errors, DOC P1: the error of mesh.Check comes ahead of all others.
func TestSolidsThatAreNotRight(t *testing.T) {
	for e, s := range wrong() {
		for _, p := range append(wrongPlanes(), plane("0 0 1 1"), plane("1 2 3 4")) {
			expect(t, s, e, byPlane(s, p)...)
			expect(t, s, e, along(s, p.N, p.C, "0")...)
			expect(t, s, e, along(s, p.N, "0", p.C)...)
			expect(t, s, e, sections(Slices(s, p.N, nil)), sections(Slices(s, p.N, slices.Repeat([]api.Rat{p.C}, 33))))
		}
	}
}

// Section Errors: also of the empty solid, and of one the parts of which would be too large.
func TestPlanesThatAreNotValid(t *testing.T) {
	for _, s := range []api.Solid{nil, box(t, "0 0 0", "1 1 1"), slices.Repeat(triangles(corners(), "abd adb"), 256)} {
		for _, p := range wrongPlanes() {
			expect(t, p, api.ErrArg, byPlane(s, p)...)
			expect(t, p, api.ErrArg, along(s, p.N, p.C, "0")...)
			expect(t, p, api.ErrArg, along(s, p.N, "0", p.C)...)
			expect(t, p, api.ErrArg, along(s, p.N, p.C, p.C)...)
			expect(t, p, api.ErrArg, sections(Slices(s, p.N, slices.Repeat([]api.Rat{p.C}, 32))))
		}
		for _, n := range append(wrongVectors(), point("0 0 0")) {
			expect(t, n, api.ErrArg, along(s, n, "0", "1")...)
			expect(t, n, api.ErrArg, along(s, n, "1", "1")...)
			expect(t, n, api.ErrArg, sections(Slices(s, n, nil)), sections(Slices(s, n, []api.Rat{})))
		}
	}
}

// Section Errors: too many numbers come ahead of what they are, and of the vector.
func TestTooManyNumbers(t *testing.T) {
	for _, s := range []api.Solid{nil, box(t, "0 0 0", "1 1 1")} {
		for _, n := range append(wrongVectors(), point("0 0 0"), point("0 0 1")) {
			for _, x := range append([]api.Rat{"0", "1/2"}, none...) {
				expect(t, n, api.ErrTooLarge, sections(Slices(s, n, slices.Repeat([]api.Rat{x}, 33))), sections(Slices(s, n, slices.Repeat([]api.Rat{x}, 1000))))
			}
		}
		for _, x := range none {
			l := append(slices.Repeat([]api.Rat{"1/2"}, 31), x)
			expect(t, x, api.ErrArg, sections(Slices(s, point("0 0 1"), l)))
		}
	}
}

// Section Errors: numbers that are in the wrong order, ahead of a part that would be too large.
func TestNumbersOutOfOrder(t *testing.T) {
	large := slices.Repeat(triangles(corners(), "abd adb"), 256)
	for _, s := range []api.Solid{nil, box(t, "0 0 0", "1 1 1"), large} {
		for _, c := range [][2]api.Rat{{"0", "0"}, {"1", "0"}, {"1/2", "1/3"}, {"-1/3", "-1/2"}, {"0", "-1"}, {"1", "1"}, {"123456789012345678901234567891", "123456789012345678901234567890"}, {"1/123456789012345678901234567890", "1/123456789012345678901234567891"}, {"10", "9"}} {
			expect(t, c, api.ErrRange, solid(Between(s, point("0 0 1"), c[0], c[1])), solid(Between(s, point("0 0 -1/2"), c[0], c[1])))
		}
	}
	expect(t, "in order", api.ErrTooLarge, solid(Between(large, point("0 0 1"), "0", "1")))
	if got, e := Between(box(t, "0 0 0", "1 1 1"), point("0 0 1"), "9", "10"); e != api.OK || len(got) != 0 {
		t.Errorf("9 and 10: %v, %d", got, e)
	}
}

// Section Errors: parts of as many triangles as there may be, and of one more, with pieces and caps. Of abd the plane leaves two pieces below and one above, of aeb the whole below, of ddd the whole above, and of the second one of two such triangles beside each other there is a cap.
func TestPartsThatAreTooLarge(t *testing.T) {
	l := append(corners(), points("5 0 0, 6 0 0, 5 0 2")...)
	half := plane("0 0 1 1")
	repeat := func(s string, count int) api.Solid { return slices.Repeat(triangles(l, s), count) }
	for _, c := range []struct {
		what                   string
		s                      api.Solid
		below, above, sections int
	}{
		{"pieces", repeat("abd adb", 128), 512, 256, 256}, {"pieces and a point", cat(repeat("abd adb", 128), repeat("aaa", 1)), 513, 256, 256}, {"a point and pieces", cat(repeat("aaa", 1), repeat("abd adb", 128)), 513, 256, 256}, {"pieces and a point above", cat(repeat("abd adb", 128), repeat("ddd", 1)), 512, 257, 256},
		{"all", repeat("abd adb", 256), 1024, 512, 512}, {"all but one", cat(repeat("abd adb", 255), repeat("ddd", 2)), 1020, 512, 510},
		{"pieces and caps", cat(repeat("abd adb", 1), repeat("jkl jlk", 84), repeat("aaa", 4)), 512, 338, 170}, {"pieces, caps and a point", cat(repeat("abd adb", 1), repeat("jkl jlk", 84), repeat("aaa", 5)), 513, 338, 170},
		{"pieces and caps above", cat(repeat("abd adb", 1), repeat("jkl jlk", 127), repeat("ddd", 2)), 766, 512, 256}, {"pieces, caps and a point above", cat(repeat("abd adb", 1), repeat("jkl jlk", 127), repeat("ddd", 3)), 766, 513, 256},
	} {
		want := cutAsDefined(c.s, half)
		if len(want.below) != c.below || len(want.above) != c.above || len(want.section) != c.sections || mesh.Check(c.s) != api.OK {
			t.Errorf("%s: %d, %d and %d", c.what, len(want.below), len(want.above), len(want.section))
		}
		if want.below = limited(want.below); !isPart(want.below)(Below(c.s, half)) {
			t.Errorf("%s: the part below", c.what)
		}
		if want.above = limited(want.above); !isPart(want.above)(Above(c.s, half)) {
			t.Errorf("%s: the part above", c.what)
		}
		if got, e := Section(c.s, half); e != api.OK || !slices.Equal(got, want.section) {
			t.Errorf("%s: the section is %v, %d", c.what, got, e)
		}
		if !isPart(want.below)(Between(c.s, half.N, "-1", "1")) {
			t.Errorf("%s: the part below a number", c.what)
		}
		if !isPart(want.above)(Between(c.s, half.N, "1", "9")) {
			t.Errorf("%s: the part above a number", c.what)
		}
		// The part below is made first, even if little of it is above.
		if want.below == nil {
			expect(t, c.what, api.ErrTooLarge, solid(Between(c.s, half.N, "9/10", "1")))
		}
	}
}

// limited returns nil for a part that is too large.
func limited(s api.Solid) api.Solid {
	if len(s) > api.MaxTriangles {
		return nil
	}
	return s
}

// isPart reports whether a function has returned a part, or, if it is nil, that it is too large.
func isPart(want api.Solid) func(api.Solid, api.Errno) bool {
	return func(got api.Solid, e api.Errno) bool {
		return want == nil && got == nil && e == api.ErrTooLarge || want != nil && e == api.OK && slices.Equal(got, want)
	}
}

// askAll calls every function.
func askAll(s api.Solid, p api.Plane, l []api.Rat) []answer {
	return append(byPlane(s, p), solid(Between(s, p.N, "-1", "1/2")), sections(Slices(s, p.N, l)))
}

// overwrite changes all of the memory of a result.
func overwrite(got answer) {
	changed := api.Vector{X: "changed"}
	all := got.Solid[:cap(got.Solid)]
	for i := range all {
		all[i] = api.Triangle{changed, changed, changed}
	}
	for _, l := range append(got.Sections[:cap(got.Sections)], got.Section) {
		l = l[:cap(l)]
		for i := range l {
			l[i] = api.Segment{changed, changed}
		}
	}
}

// The chapter, DOC section Rules: arguments are not changed, and share no memory with results; no two parts of a result do, either.
func TestMemoryIsNotShared(t *testing.T) {
	source := rand.New(rand.NewSource(6))
	for _, s := range someSolids(t) {
		for _, p := range append(somePlanes(t, source, s)[:5], plane("1 1 1 99999999999999999999999")) {
			a, l := slices.Clone(s), []api.Rat{p.C, "1/2", "1/2"}
			for i, got := range askAll(a, p, l) {
				if got.Error != api.OK {
					t.Errorf("answer %d for %v is the error %d", i, s, got.Error)
				}
				if len(got.Sections) == 3 && len(got.Sections[1]) > 0 {
					overwrite(answer{Section: got.Sections[1]})
					if !slices.Equal(got.Sections[2], sure(Section(s, api.Plane{N: p.N, C: "1/2"}))) {
						t.Errorf("%v: two sections share memory", s)
					}
				}
				overwrite(got)
				if !slices.Equal(a, s) || !slices.Equal(l, []api.Rat{p.C, "1/2", "1/2"}) {
					t.Fatalf("answer %d has changed the arguments", i)
				}
			}
			kept, again := askAll(a, p, l), askAll(slices.Clone(a), p, slices.Clone(l))
			overwrite(answer{Solid: a})
			l[0] = "changed"
			if !reflect.DeepEqual(kept, again) {
				t.Errorf("results for %v have changed", s)
			}
		}
	}
}

// DOC P2, P3: calls at once, and in any order, return what calls alone return.
func TestCallsAtOnce(t *testing.T) {
	source := rand.New(rand.NewSource(7))
	solids := someSolids(t)
	var planes []api.Plane
	for _, s := range solids {
		planes = append(planes, somePlanes(t, source, s)[6:][0])
	}
	ask := func(i int) []answer { return askAll(solids[i], planes[i], []api.Rat{"0", planes[i].C}) }
	var alone [][]answer
	for i := range solids {
		alone = append(alone, ask(i))
	}
	var group sync.WaitGroup
	for range 4 {
		group.Go(func() {
			for i := len(solids) - 1; i >= 0; i-- {
				if again := ask(i); !reflect.DeepEqual(again, alone[i]) {
					t.Errorf("%v: %v and %v", solids[i], again, alone[i])
				}
			}
		})
	}
	group.Wait()
}
