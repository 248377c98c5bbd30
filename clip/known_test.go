package clip

import (
	"math/big"
	"math/rand"
	"slices"
	"strings"
	"testing"

	"garboard/api"
	"garboard/mesh"
	"garboard/vector"
)

// point reads three numbers.
func point(s string) api.Vector {
	words := strings.Fields(s)
	return api.Vector{X: api.Rat(words[0]), Y: api.Rat(words[1]), Z: api.Rat(words[2])}
}

// points reads points that are separated by commas.
func points(s string) []api.Vector {
	var out []api.Vector
	for part := range strings.SplitSeq(s, ",") {
		out = append(out, point(part))
	}
	return out
}

// plane reads the three numbers of a vector, and C.
func plane(s string) api.Plane {
	return api.Plane{N: point(s), C: api.Rat(strings.Fields(s)[3])}
}

// triangles reads solids, each triangle of which is three letters that stand for the points of a list.
func triangles(l []api.Vector, s string) api.Solid {
	var out api.Solid
	for word := range strings.FieldsSeq(s) {
		out = append(out, api.Triangle{l[word[0]-'a'], l[word[1]-'a'], l[word[2]-'a']})
	}
	return out
}

// segments reads edges, each of which is two such letters.
func segments(l []api.Vector, s string) []api.Segment {
	var out []api.Segment
	for word := range strings.FieldsSeq(s) {
		out = append(out, api.Segment{l[word[0]-'a'], l[word[1]-'a']})
	}
	return out
}

// need returns a result that has to come without an error.
func need[T any](t *testing.T) func(result T, e api.Errno) T {
	t.Helper()
	return func(result T, e api.Errno) T {
		t.Helper()
		if e != api.OK {
			t.Fatalf("the error %d", e)
		}
		return result
	}
}

func box(t *testing.T, low, high string) api.Solid {
	t.Helper()
	return need[api.Solid](t)(mesh.Box(point(low), point(high)))
}

func prism(t *testing.T, l []api.Vector, along string) api.Solid {
	t.Helper()
	return need[api.Solid](t)(mesh.Prism(l, point(along)))
}

// cat puts solids into one list, however many triangles it has.
func cat(l ...api.Solid) api.Solid { return slices.Concat(l...) }

// numbers are the coordinates of a point.
type numbers [3]*big.Rat

func rat(x api.Rat) *big.Rat {
	n, ok := new(big.Rat).SetString(string(x))
	if !ok {
		panic("no number: " + string(x))
	}
	return n
}

func text(x *big.Rat) api.Rat { return api.Rat(x.RatString()) }

func read(p api.Vector) numbers { return numbers{rat(p.X), rat(p.Y), rat(p.Z)} }

func made(p numbers) api.Vector { return api.Vector{X: text(p[0]), Y: text(p[1]), Z: text(p[2])} }

func dotted(a, b numbers) *big.Rat {
	sum := new(big.Rat)
	for i := range a {
		sum.Add(sum, new(big.Rat).Mul(a[i], b[i]))
	}
	return sum
}

// height has the sign of the side of a point.
func height(p api.Plane, a api.Vector) *big.Rat {
	x := dotted(read(p.N), read(a))
	return x.Sub(x, rat(p.C))
}

// between returns a + (b - a) part.
func between(a, b api.Vector, part *big.Rat) api.Vector {
	from, to := read(a), read(b)
	for i := range to {
		to[i].Sub(to[i], from[i])
		to[i].Add(from[i], to[i].Mul(to[i], part))
	}
	return made(to)
}

// volume is that of a solid.
func volume(s api.Solid) *big.Rat {
	sum := new(big.Rat)
	for _, t := range s {
		a, b, c := read(t[0]), read(t[1]), read(t[2])
		for i := range a {
			k, l := (i+1)%3, (i+2)%3
			first, second := new(big.Rat).Mul(b[k], c[l]), new(big.Rat).Mul(b[l], c[k])
			sum.Add(sum, first.Mul(a[i], first.Sub(first, second)))
		}
	}
	return sum.Quo(sum, big.NewRat(6, 1))
}

// cutting is what the chapter says of a solid and a plane.
type cutting struct {
	below, above api.Solid
	section      []api.Segment
}

// cutAsDefined is written as the chapter writes it.
func cutAsDefined(s api.Solid, p api.Plane) cutting {
	var out cutting
	isAbove := func(a api.Vector) bool { return height(p, a).Sign() == 1 }
	add := func(above bool, t api.Triangle) {
		if above {
			out.above = append(out.above, t)
		} else {
			out.below = append(out.below, t)
		}
	}
	for _, t := range s {
		if isAbove(t[0]) == isAbove(t[1]) && isAbove(t[1]) == isAbove(t[2]) {
			add(isAbove(t[0]), t)
			continue
		}
		for i := range 3 {
			a, b, c := t[i], t[(i+1)%3], t[(i+2)%3]
			if isAbove(b) != isAbove(c) {
				continue
			}
			d, e := crossing(p, a, b), crossing(p, a, c)
			add(isAbove(a), api.Triangle{a, d, e})
			add(!isAbove(a), api.Triangle{d, b, c})
			add(!isAbove(a), api.Triangle{d, c, e})
			if d != e && isAbove(a) {
				out.section = append(out.section, api.Segment{d, e})
			}
			if d != e && !isAbove(a) {
				out.section = append(out.section, api.Segment{e, d})
			}
		}
	}
	for _, edge := range out.section {
		o, x, y := out.section[0][0], edge[0], edge[1]
		if o != x && o != y {
			out.below = append(out.below, api.Triangle{o, x, y})
			out.above = append(out.above, api.Triangle{o, y, x})
		}
	}
	return out
}

func crossing(p api.Plane, a, b api.Vector) api.Vector {
	first, second := height(p, a), height(p, b)
	return between(a, b, new(big.Rat).Quo(first, new(big.Rat).Sub(first, second)))
}

// kinds are random coordinates of many kinds: few different ones, small, quotients, and long ones.
var kinds = []func(*rand.Rand) *big.Rat{
	func(source *rand.Rand) *big.Rat { return big.NewRat(source.Int63n(3), 1) },
	func(source *rand.Rand) *big.Rat { return big.NewRat(source.Int63n(9)-4, 1) },
	func(source *rand.Rand) *big.Rat { return big.NewRat(source.Int63n(39)-19, 1+source.Int63n(6)) },
	func(source *rand.Rand) *big.Rat {
		return big.NewRat(source.Int63()-source.Int63(), 1+source.Int63n(1000000000000))
	},
}

func randomPoints(source *rand.Rand, count int) []api.Vector {
	kind := kinds[source.Intn(len(kinds))]
	var out []api.Vector
	for range count {
		out = append(out, made(numbers{kind(source), kind(source), kind(source)}))
	}
	return out
}

// corners are those of a tetrahedron, and points outside and within it.
func corners() []api.Vector {
	return points("0 0 0, 2 0 0, 0 2 0, 0 0 2, 1 0 0, 1 1 0, 1/3 1/3 1/3, 3 0 0, 0 0 -1/1000000000000")
}

// tetrahedron is a whole body.
const tetrahedron = "acb abd bcd cad"

// randomClosed returns a closed solid: some tetrahedra between random points, of either orientation, which often have points in common, and sometimes lie in a plane.
func randomClosed(source *rand.Rand) api.Solid {
	var out api.Solid
	for range 1 + source.Intn(4) {
		out = append(out, triangles(randomPoints(source, 4), tetrahedron)...)
	}
	return out
}

// convexBodies returns whole bodies without a dent.
func convexBodies(t *testing.T) []api.Solid {
	t.Helper()
	return []api.Solid{
		triangles(corners(), tetrahedron),
		box(t, "0 0 0", "2 1 1"),
		box(t, "-1/2 0 -3", "7 1/3 1000000000000"),
		prism(t, points("0 0 0, 3 0 0, 4 1 0, 2 3/2 0, -1 1 0"), "1 1/2 2"),
		prism(t, points("0 0 0, 0 1/7 1/7, 0 -1/3 5"), "9 1 1/2"),
		triangles(corners(), "acf afb abd bfd fcd cad"),
		triangles(corners(), "ace ecb aeb abd bcd cad"),
		triangles(corners(), tetrahedron+" ggg aga"),
		nil,
	}
}

// someSolids are solids of many kinds that are right.
func someSolids(t *testing.T) []api.Solid {
	t.Helper()
	body := box(t, "0 0 0", "1 1 1")
	out := append(convexBodies(t),
		need[api.Solid](t)(mesh.Reverse(body)),
		prism(t, points("0 0 0, 3 0 0, 3 1 0, 1 1 0, 1 3 0, 0 3 0"), "0 0 1"),
		prism(t, points("0 0 0, 3 0 0, 0 3 0"), "0 0 -1"),
		cat(body, box(t, "2 0 0", "3 1 1"), box(t, "1 1 1", "2 2 2")),
		cat(box(t, "-1 -1 -1", "2 2 2"), need[api.Solid](t)(mesh.Reverse(body))),
		triangles(corners(), "abc acb aaa aeb abe"),
		triangles(corners(), "abc abc acb cba aad dda"),
	)
	source := rand.New(rand.NewSource(1))
	for range 16 {
		out = append(out, randomClosed(source))
	}
	return out
}

// somePlanes returns planes of many kinds: across a solid and beside it, through none, one, two or three of its points, and in its faces.
func somePlanes(t *testing.T, source *rand.Rand, s api.Solid) []api.Plane {
	t.Helper()
	out := []api.Plane{plane("0 0 1 1/2"), plane("0 0 -1 -1/2"), plane("0 0 7 0"), plane("-1/2 0 0 0"), plane("1 1 1 -99999"), plane("1 1 1 1/3")}
	l := append(need[[]api.Vector](t)(mesh.Points(s)), randomPoints(source, 3)...)
	for range 4 {
		a, b, c := l[source.Intn(len(l))], l[source.Intn(len(l))], l[source.Intn(len(l))]
		if p, e := vector.Through(a, b, c); e == api.OK {
			out = append(out, p)
		}
		n := randomPoints(source, 1)[0]
		if n != point("0 0 0") {
			x := dotted(read(n), read(between(a, b, big.NewRat(source.Int63n(4), 3))))
			out = append(out, api.Plane{N: n, C: text(x)})
		}
	}
	return out
}

// each calls a function for solids and planes of many kinds.
func each(t *testing.T, see func(s api.Solid, p api.Plane)) {
	t.Helper()
	source := rand.New(rand.NewSource(2))
	for _, s := range someSolids(t) {
		for _, p := range somePlanes(t, source, s) {
			see(s, p)
		}
	}
}
