package mesh

import (
	"math/rand"
	"reflect"
	"slices"
	"sync"
	"testing"

	"garboard/api"
)

// none are strings that are no numbers.
var none = []api.Rat{"", "-0", "2/4", "1.5", "01", "1/0", "4/1", "x", "\xff", "123456789012345678901234567890/246913578024691357802469135780"}

// answer is what a function returned.
type answer struct {
	Triangles []api.Triangle
	Points    []api.Vector
	Is        bool
	Count     int
	Error     api.Errno
}

func solid(s api.Solid, e api.Errno) answer       { return answer{Triangles: s, Error: e} }
func fanned(l []api.Triangle, e api.Errno) answer { return answer{Triangles: l, Error: e} }
func listed(l []api.Vector, e api.Errno) answer   { return answer{Points: l, Error: e} }
func decided(is bool, e api.Errno) answer         { return answer{Is: is, Error: e} }
func count(n int, e api.Errno) answer             { return answer{Count: n, Error: e} }

// askOne calls every function of one solid.
func askOne(s api.Solid, v api.Vector) []answer {
	return []answer{solid(Move(s, v)), solid(Reverse(s)), solid(Mirror(s)), listed(Points(s)), decided(Convex(s)), count(Shells(s))}
}

// expect checks that there is nothing but an error.
func expect(t *testing.T, what any, e api.Errno, answers ...answer) {
	t.Helper()
	for i, got := range answers {
		if !reflect.DeepEqual(got, answer{Error: e}) {
			t.Errorf("%v: answer %d is %v instead of the error %d", what, i, got, e)
		}
	}
}

// wrongPoints returns points that are not valid, with what is no number at each place.
func wrongPoints() []api.Vector {
	out := []api.Vector{{}}
	for _, x := range none {
		out = append(out, api.Vector{X: x, Y: "1", Z: "1"}, api.Vector{X: "1", Y: x, Z: "1"}, api.Vector{X: "1", Y: "1", Z: x})
	}
	return out
}

// wrong returns solids that are not right, one for each error.
func wrong() map[api.Errno]api.Solid {
	l := append(corners(), point("2/4 0 0"))
	return map[api.Errno]api.Solid{
		api.ErrTooLarge: slices.Repeat(triangles(l, "abj"), api.MaxTriangles+1), api.ErrArg: triangles(l, "abj"), api.ErrOpen: triangles(l, "abc acd"),
	}
}

// P12.1, section Errors: a point that is not valid, at each place of a solid that is closed otherwise.
func TestPointsThatAreNotValid(t *testing.T) {
	for _, p := range wrongPoints() {
		l := append(corners()[:4], p)
		for _, s := range []string{"eee", "abc acb aae", "bec bce", "abe aeb", tetrahedron + " eba eab"} {
			bad := triangles(l, s)
			expect(t, bad, api.ErrArg, answer{Error: Check(bad)})
			expect(t, bad, api.ErrArg, askOne(bad, l[0])...)
		}
		expect(t, p, api.ErrArg, solid(Move(nil, p)), solid(Move(triangles(l, tetrahedron), p)), solid(Prism(l[:3], p)), solid(Prism(l[2:], l[0])), fanned(Fan(l)), fanned(Fan([]api.Vector{p, l[0], l[1]})))
		for _, q := range append(wrongPoints()[:4], l[:4]...) {
			expect(t, p, api.ErrArg, solid(Box(p, q)), solid(Box(q, p)))
		}
	}
}

// Section Errors, DOC P1: the error of Check comes first, that of the first solid ahead of that of the second one, and every other result is zero.
func TestSolidsThatAreNotRight(t *testing.T) {
	most := slices.Repeat(triangles(corners(), "abc acb"), api.MaxTriangles/2)
	for e, s := range wrong() {
		expect(t, s, e, answer{Error: Check(s)})
		for _, v := range append(wrongPoints(), point("0 0 0"), point("1 2 3")) {
			expect(t, s, e, askOne(s, v)...)
		}
		for _, other := range wrong() {
			expect(t, s, e, solid(Join(s, other)))
		}
		for _, other := range []api.Solid{nil, triangles(corners(), tetrahedron), most} {
			expect(t, s, e, solid(Join(s, other)), solid(Join(other, s)))
		}
	}
}

// Section Errors: the size of a polygon comes ahead of what is in it.
func TestPolygonsOfTheWrongSize(t *testing.T) {
	for _, p := range append(wrongPoints(), point("0 0 0")) {
		for _, v := range append(wrongPoints(), point("0 0 1")) {
			for n := range 3 {
				expect(t, n, api.ErrEmpty, solid(Prism(slices.Repeat([]api.Vector{p}, n), v)))
			}
			for _, n := range []int{130, 256, 257, 1000} {
				expect(t, n, api.ErrTooLarge, solid(Prism(slices.Repeat([]api.Vector{p}, n), v)))
			}
		}
		for _, n := range []int{257, 1000} {
			expect(t, n, api.ErrTooLarge, fanned(Fan(slices.Repeat([]api.Vector{p}, n))))
		}
		expect(t, p, api.ErrEmpty, fanned(Fan([]api.Vector{p, p})), fanned(Fan([]api.Vector{p})), fanned(Fan(nil)), fanned(Fan([]api.Vector{})), solid(Prism(nil, p)))
	}
	for _, n := range []int{3, 129, 130, 256} {
		l := polygon(n)
		l[n-1].Z = "2/4"
		expect(t, n, api.ErrArg, fanned(Fan(l)))
		if n < 130 {
			expect(t, n, api.ErrArg, solid(Prism(l, l[0])))
		}
	}
}

// Section Errors: corners in one plane, and those that are exchanged.
func TestBoxesWithoutVolume(t *testing.T) {
	for _, c := range [][2]string{{"0 0 0", "0 0 0"}, {"0 0 0", "0 1 1"}, {"0 0 0", "1 0 1"}, {"0 0 0", "1 1 0"}, {"0 0 0", "-1 1 1"}, {"0 0 0", "1 -1 1"}, {"0 0 0", "1 1 -1"}, {"1 1 1", "0 0 0"}, {"1/2 1/2 1/2", "1/3 2/3 2/3"}, {"-1/3 0 0", "-1/2 1 1"}, {"0 0 123456789012345678901234567890", "1 1 123456789012345678901234567890"}, {"0 0 123456789012345678901234567891", "1 1 123456789012345678901234567890"}} {
		expect(t, c, api.ErrRange, solid(Box(point(c[0]), point(c[1]))))
	}
}

// askAll calls every function.
func askAll(a, b api.Solid, l []api.Vector) []answer {
	return append(askOne(a, l[0]), answer{Error: Check(a)}, solid(Join(a, b)), fanned(Fan(l)), solid(Prism(l, l[1])), solid(Box(l[0], l[1])))
}

// overwrite changes all of the memory of a result.
func overwrite(got answer) {
	changed := api.Vector{X: "changed"}
	triangles, points := got.Triangles[:cap(got.Triangles)], got.Points[:cap(got.Points)]
	for i := range triangles {
		triangles[i] = api.Triangle{changed, changed, changed}
	}
	for i := range points {
		points[i] = changed
	}
}

// The chapter, DOC section Rules: arguments are not changed, and share no memory with results.
func TestMemoryIsNotShared(t *testing.T) {
	source := rand.New(rand.NewSource(7))
	for _, s := range someSolids(t) {
		a, b := slices.Clone(s), triangles(corners(), tetrahedron)
		l := append(points("0 0 0, 1 1 1"), randomPoints(source, 5)...)
		firstPoints, other := slices.Clone(l), slices.Clone(b)
		for i, got := range askAll(a, b, l) {
			if got.Error != api.OK {
				t.Errorf("answer %d for %v is the error %d", i, s, got.Error)
			}
			overwrite(got)
			if !slices.Equal(a, s) || !slices.Equal(b, other) || !slices.Equal(l, firstPoints) {
				t.Fatalf("answer %d has changed the arguments", i)
			}
		}
		overwrite(solid(Join(nil, a)))
		overwrite(solid(Join(a, nil)))
		if !slices.Equal(a, s) {
			t.Fatal("a solid that is joined with nothing has changed")
		}
		kept := askAll(a, b, l)
		again := askAll(slices.Clone(a), slices.Clone(b), slices.Clone(l))
		for _, arguments := range []answer{{Triangles: a}, {Triangles: b}, {Points: l}} {
			overwrite(arguments)
		}
		if !reflect.DeepEqual(kept, again) {
			t.Errorf("results for %v have changed", s)
		}
	}
}

// DOC P2, P3: calls at once, and in any order, return what calls alone return.
func TestCallsAtOnce(t *testing.T) {
	solids := someSolids(t)
	l := append(points("0 0 0, 1 1 1"), randomPoints(rand.New(rand.NewSource(8)), 20)...)
	ask := func(i int) []answer { return askAll(solids[i], solids[len(solids)-1-i], l) }
	var alone [][]answer
	for i := range solids {
		alone = append(alone, ask(i))
	}
	var group sync.WaitGroup
	for range 4 {
		group.Go(func() {
			for i := len(solids) - 1; i >= 0; i-- {
				if again := ask(i); !reflect.DeepEqual(again, alone[i]) {
					t.Errorf("%v: %v and %v", solids[i], again, alone[i])
				}
			}
		})
	}
	group.Wait()
}
