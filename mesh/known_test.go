package mesh

import (
	"math/big"
	"math/rand"
	"slices"
	"strings"
	"testing"

	"garboard/api"
)

// point reads three numbers.
func point(s string) api.Vector {
	words := strings.Fields(s)
	return api.Vector{X: api.Rat(words[0]), Y: api.Rat(words[1]), Z: api.Rat(words[2])}
}

// points reads points that are separated by commas.
func points(s string) []api.Vector {
	var out []api.Vector
	for part := range strings.SplitSeq(s, ",") {
		out = append(out, point(part))
	}
	return out
}

// triangles reads solids, each triangle of which is three letters that stand for the points of a list.
func triangles(l []api.Vector, s string) api.Solid {
	var out api.Solid
	for word := range strings.FieldsSeq(s) {
		out = append(out, api.Triangle{l[word[0]-'a'], l[word[1]-'a'], l[word[2]-'a']})
	}
	return out
}

// need returns a result that has to come without an error.
func need[T any](t *testing.T) func(result T, e api.Errno) T {
	t.Helper()
	return func(result T, e api.Errno) T {
		t.Helper()
		if e != api.OK {
			t.Fatalf("the error %d", e)
		}
		return result
	}
}

func box(t *testing.T, low, high string) api.Solid {
	t.Helper()
	return need[api.Solid](t)(Box(point(low), point(high)))
}

// cat puts solids into one list, however many triangles it has.
func cat(l ...api.Solid) api.Solid { return slices.Concat(l...) }

// corners are those of a tetrahedron, and points outside and within it.
func corners() []api.Vector {
	return points("0 0 0, 2 0 0, 0 2 0, 0 0 2, 1 0 0, 1 1 0, 1/3 1/3 1/3, 3 0 0, 0 0 -1/1000000000000")
}

// tetrahedron is a whole body.
const tetrahedron = "acb abd bcd cad"

// numbers are the coordinates of a point.
type numbers [3]*big.Rat

func rat(x api.Rat) *big.Rat {
	n, ok := new(big.Rat).SetString(string(x))
	if !ok {
		panic("no number: " + string(x))
	}
	return n
}

func text(x *big.Rat) api.Rat { return api.Rat(x.RatString()) }

func read(p api.Vector) numbers { return numbers{rat(p.X), rat(p.Y), rat(p.Z)} }

func made(p numbers) api.Vector { return api.Vector{X: text(p[0]), Y: text(p[1]), Z: text(p[2])} }

func plus(a, b numbers) numbers {
	return numbers{new(big.Rat).Add(a[0], b[0]), new(big.Rat).Add(a[1], b[1]), new(big.Rat).Add(a[2], b[2])}
}

func minus(a, b numbers) numbers {
	return numbers{new(big.Rat).Sub(a[0], b[0]), new(big.Rat).Sub(a[1], b[1]), new(big.Rat).Sub(a[2], b[2])}
}

// det is the determinant of three vectors.
func det(a, b, c numbers) *big.Rat {
	sum := new(big.Rat)
	for i := range 3 {
		k, l := (i+1)%3, (i+2)%3
		first, second := new(big.Rat).Mul(b[k], c[l]), new(big.Rat).Mul(b[l], c[k])
		sum.Add(sum, first.Mul(a[i], first.Sub(first, second)))
	}
	return sum
}

// volume is that of a solid.
func volume(s api.Solid) api.Rat {
	sum := new(big.Rat)
	for _, t := range s {
		sum.Add(sum, det(read(t[0]), read(t[1]), read(t[2])))
	}
	return text(sum.Quo(sum, big.NewRat(6, 1)))
}

// isClosedAsDefined counts the edges between each two points.
func isClosedAsDefined(s api.Solid) bool {
	var edges [][2]api.Vector
	for _, t := range s {
		edges = append(edges, [2]api.Vector{t[0], t[1]}, [2]api.Vector{t[1], t[2]}, [2]api.Vector{t[2], t[0]})
	}
	count := func(from, to api.Vector) int {
		n := 0
		for _, e := range edges {
			if e[0] == from && e[1] == to {
				n++
			}
		}
		return n
	}
	return !slices.ContainsFunc(edges, func(e [2]api.Vector) bool {
		return e[0] != e[1] && count(e[0], e[1]) != count(e[1], e[0])
	})
}

// isConvexAsDefined asks for the side of a point by the determinant of the vectors to it and to two points of a triangle, which is 0 for all points if the triangle's points are on one line.
func isConvexAsDefined(s api.Solid) bool {
	for _, t := range s {
		a := read(t[0])
		b, c := minus(read(t[1]), a), minus(read(t[2]), a)
		for _, other := range s {
			for _, p := range other {
				if det(b, c, minus(read(p), a)).Sign() > 0 {
					return false
				}
			}
		}
	}
	return true
}

// shellsAsDefined spreads numbers from triangle to triangle until nothing changes.
func shellsAsDefined(s api.Solid) int {
	shell := make([]int, len(s))
	for i := range shell {
		shell[i] = i
	}
	for changed := true; changed; {
		changed = false
		for i, t := range s {
			for k, u := range s {
				if shell[k] < shell[i] && slices.ContainsFunc(t[:], func(p api.Vector) bool { return slices.Contains(u[:], p) }) {
					shell[i], changed = shell[k], true
				}
			}
		}
	}
	slices.Sort(shell)
	return len(slices.Compact(shell))
}

// kinds are random coordinates of many kinds: few different ones, small, quotients, and long ones.
var kinds = []func(*rand.Rand) *big.Rat{
	func(source *rand.Rand) *big.Rat { return big.NewRat(source.Int63n(3), 1) },
	func(source *rand.Rand) *big.Rat { return big.NewRat(source.Int63n(9)-4, 1) },
	func(source *rand.Rand) *big.Rat { return big.NewRat(source.Int63n(39)-19, 1+source.Int63n(6)) },
	func(source *rand.Rand) *big.Rat {
		return big.NewRat(source.Int63()-source.Int63(), 1+source.Int63n(1000000000000))
	},
}

func randomPoints(source *rand.Rand, count int) []api.Vector {
	kind := kinds[source.Intn(len(kinds))]
	var out []api.Vector
	for range count {
		out = append(out, made(numbers{kind(source), kind(source), kind(source)}))
	}
	return out
}

// randomClosed returns a closed solid: some tetrahedra between random points, of either orientation, which often have points in common, and sometimes lie in a plane.
func randomClosed(source *rand.Rand) api.Solid {
	var out api.Solid
	for range 1 + source.Intn(5) {
		out = append(out, triangles(randomPoints(source, 4), tetrahedron)...)
	}
	return out
}

// convexBodies returns whole bodies without a dent.
func convexBodies(t *testing.T) map[string]api.Solid {
	t.Helper()
	prism := need[api.Solid](t)
	return map[string]api.Solid{
		"a tetrahedron":         triangles(corners(), tetrahedron),
		"a box":                 box(t, "-1/2 0 -3", "7 1/3 1000000000000"),
		"a prism":               prism(Prism(points("0 0 0, 3 0 0, 4 1 0, 2 3/2 0, -1 1 0"), point("1 1/2 2"))),
		"a turned prism":        prism(Prism(points("0 0 0, 0 1/7 1/7, 0 -1/3 5"), point("9 1 1/2"))),
		"a split face":          triangles(corners(), "acf afb abd bfd fcd cad"),
		"an edge with a point":  triangles(corners(), "ace ecb aeb abd bcd cad"),
		"the empty solid":       nil,
		"a flat one":            triangles(corners(), "abc acb"),
		"a flat one in a plane": triangles(corners(), "abc acb efa eaf"),
		"a line":                triangles(corners(), "aeb abe"),
		"a point":               triangles(corners(), "aaa"),
		"a point within":        triangles(corners(), tetrahedron+" ggg"),
		"an edge within":        triangles(corners(), tetrahedron+" aga"),
	}
}

// dentedBodies returns solids that are closed, but not convex.
func dentedBodies(t *testing.T) map[string]api.Solid {
	t.Helper()
	prism := need[api.Solid](t)
	body := box(t, "0 0 0", "1 1 1")
	return map[string]api.Solid{
		"inside out":                need[api.Solid](t)(Reverse(body)),
		"an L":                      prism(Prism(points("0 0 0, 3 0 0, 3 1 0, 1 1 0, 1 3 0, 0 3 0"), point("0 0 1"))),
		"a prism downwards":         prism(Prism(points("0 0 0, 3 0 0, 0 3 0"), point("0 0 -1"))),
		"a clockwise prism":         prism(Prism(points("0 0 0, 0 3 0, 3 0 0"), point("0 0 1"))),
		"a small dent":              prism(Prism(points("0 0 0, 2 0 0, 2 2 0, 1 1999999999999/1000000000000 0, 0 2 0"), point("0 0 1"))),
		"two boxes":                 cat(body, box(t, "2 0 0", "3 1 1")),
		"two boxes that touch":      cat(body, box(t, "1 0 0", "2 1 1")),
		"a point outside":           triangles(corners(), tetrahedron+" hhh"),
		"a point a little outside":  triangles(corners(), tetrahedron+" iii"),
		"an edge to a point beside": triangles(corners(), tetrahedron+" aha"),
		"a hole":                    cat(box(t, "-1 -1 -1", "2 2 2"), need[api.Solid](t)(Reverse(body))),
	}
}
