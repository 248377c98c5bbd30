package mass

import (
	"math/big"
	"math/rand"
	"slices"
	"strings"
	"testing"

	"garboard/api"
	"garboard/mesh"
	"garboard/vector"
)

// point reads three numbers.
func point(s string) api.Vector {
	words := strings.Fields(s)
	return api.Vector{X: api.Rat(words[0]), Y: api.Rat(words[1]), Z: api.Rat(words[2])}
}

// points reads points that are separated by commas.
func points(s string) []api.Vector {
	var out []api.Vector
	for part := range strings.SplitSeq(s, ",") {
		out = append(out, point(part))
	}
	return out
}

// plane reads the three numbers of a vector, and C.
func plane(s string) api.Plane {
	return api.Plane{N: point(s), C: api.Rat(strings.Fields(s)[3])}
}

// triangles reads solids, each triangle of which is three letters that stand for the points of a list.
func triangles(l []api.Vector, s string) api.Solid {
	var out api.Solid
	for word := range strings.FieldsSeq(s) {
		out = append(out, api.Triangle{l[word[0]-'a'], l[word[1]-'a'], l[word[2]-'a']})
	}
	return out
}

// segments reads edges, each of which is two such letters.
func segments(l []api.Vector, s string) []api.Segment {
	var out []api.Segment
	for word := range strings.FieldsSeq(s) {
		out = append(out, api.Segment{l[word[0]-'a'], l[word[1]-'a']})
	}
	return out
}

// need returns a result that has to come without an error.
func need[T any](t *testing.T) func(result T, e api.Errno) T {
	t.Helper()
	return func(result T, e api.Errno) T {
		t.Helper()
		if e != api.OK {
			t.Fatalf("the error %d", e)
		}
		return result
	}
}

func box(t *testing.T, low, high string) api.Solid {
	t.Helper()
	return need[api.Solid](t)(mesh.Box(point(low), point(high)))
}

func prism(t *testing.T, l []api.Vector, along string) api.Solid {
	t.Helper()
	return need[api.Solid](t)(mesh.Prism(l, point(along)))
}

// cat puts solids into one list, however many triangles it has.
func cat(l ...api.Solid) api.Solid { return slices.Concat(l...) }

// numbers are the coordinates of a point.
type numbers [3]*big.Rat

func rat(x api.Rat) *big.Rat {
	n, ok := new(big.Rat).SetString(string(x))
	if !ok {
		panic("no number: " + string(x))
	}
	return n
}

func text(x *big.Rat) api.Rat { return api.Rat(x.RatString()) }

func numbersOf(p api.Vector) numbers { return numbers{rat(p.X), rat(p.Y), rat(p.Z)} }

func made(p numbers) api.Vector { return api.Vector{X: text(p[0]), Y: text(p[1]), Z: text(p[2])} }

func plusBig(x, y *big.Rat) *big.Rat  { return new(big.Rat).Add(x, y) }
func minusBig(x, y *big.Rat) *big.Rat { return new(big.Rat).Sub(x, y) }
func timesBig(x, y *big.Rat) *big.Rat { return new(big.Rat).Mul(x, y) }

func dotted(a, b numbers) *big.Rat {
	return plusBig(plusBig(timesBig(a[0], b[0]), timesBig(a[1], b[1])), timesBig(a[2], b[2]))
}

func crossed(a, b numbers) numbers {
	return numbers{
		minusBig(timesBig(a[1], b[2]), timesBig(a[2], b[1])),
		minusBig(timesBig(a[2], b[0]), timesBig(a[0], b[2])),
		minusBig(timesBig(a[0], b[1]), timesBig(a[1], b[0])),
	}
}

// between returns a + (b - a) part.
func between(a, b api.Vector, part *big.Rat) api.Vector {
	from, to := numbersOf(a), numbersOf(b)
	for i := range to {
		to[i].Sub(to[i], from[i])
		to[i].Add(from[i], to[i].Mul(to[i], part))
	}
	return made(to)
}

// massAsDefined is written as the chapter writes it.
func massAsDefined(l []api.Triangle) api.Mass {
	var sums [10]*big.Rat
	for i := range sums {
		sums[i] = new(big.Rat)
	}
	for _, t := range l {
		a, b, c := numbersOf(t[0]), numbersOf(t[1]), numbersOf(t[2])
		d := dotted(a, crossed(b, c))
		var s numbers
		for i := range s {
			s[i] = plusBig(plusBig(a[i], b[i]), c[i])
		}
		mixed := func(i, k int) *big.Rat {
			x := timesBig(s[i], s[k])
			for _, p := range []numbers{a, b, c} {
				x.Add(x, timesBig(p[i], p[k]))
			}
			return timesBig(timesBig(d, x), big.NewRat(1, 120))
		}
		terms := []*big.Rat{timesBig(d, big.NewRat(1, 6)), timesBig(timesBig(d, s[0]), big.NewRat(1, 24)), timesBig(timesBig(d, s[1]), big.NewRat(1, 24)), timesBig(timesBig(d, s[2]), big.NewRat(1, 24)), mixed(0, 0), mixed(1, 1), mixed(2, 2), mixed(0, 1), mixed(1, 2), mixed(2, 0)}
		for i, x := range terms {
			sums[i].Add(sums[i], x)
		}
	}
	return madeMass(sums)
}

// readMass returns the volume, the moments, XX, YY, ZZ, XY, YZ and ZX.
func readMass(m api.Mass) [10]*big.Rat {
	return [10]*big.Rat{rat(m.Volume), rat(m.Moment.X), rat(m.Moment.Y), rat(m.Moment.Z), rat(m.XX), rat(m.YY), rat(m.ZZ), rat(m.XY), rat(m.YZ), rat(m.ZX)}
}

func madeMass(l [10]*big.Rat) api.Mass {
	return api.Mass{Volume: text(l[0]), Moment: made(numbers{l[1], l[2], l[3]}), XX: text(l[4]), YY: text(l[5]), ZZ: text(l[6]), XY: text(l[7]), YZ: text(l[8]), ZX: text(l[9])}
}

// areaAsDefined is written as the chapter writes it.
func areaAsDefined(l []api.Segment, a, b api.Vector) api.Area {
	var sums [6]*big.Rat
	for i := range sums {
		sums[i] = new(big.Rat)
	}
	for _, edge := range l {
		p, q := numbersOf(edge[0]), numbersOf(edge[1])
		pA, pB, qA, qB := dotted(numbersOf(a), p), dotted(numbersOf(b), p), dotted(numbersOf(a), q), dotted(numbersOf(b), q)
		d := minusBig(timesBig(pA, qB), timesBig(qA, pB))
		add := func(i int, divisor int64, l ...*big.Rat) {
			x := new(big.Rat)
			for _, y := range l {
				x.Add(x, y)
			}
			sums[i].Add(sums[i], timesBig(timesBig(d, x), big.NewRat(1, divisor)))
		}
		add(0, 2, big.NewRat(1, 1))
		add(1, 6, pA, qA)
		add(2, 6, pB, qB)
		add(3, 12, timesBig(pA, pA), timesBig(pA, qA), timesBig(qA, qA))
		add(4, 12, timesBig(pB, pB), timesBig(pB, qB), timesBig(qB, qB))
		add(5, 24, timesBig(pA, pB), timesBig(pA, pB), timesBig(pA, qB), timesBig(qA, pB), timesBig(qA, qB), timesBig(qA, qB))
	}
	return api.Area{Area: text(sums[0]), A: text(sums[1]), B: text(sums[2]), AA: text(sums[3]), BB: text(sums[4]), AB: text(sums[5])}
}

// kinds are random coordinates of many kinds: few different ones, small, quotients, and long ones.
var kinds = []func(*rand.Rand) *big.Rat{
	func(source *rand.Rand) *big.Rat { return big.NewRat(source.Int63n(3), 1) },
	func(source *rand.Rand) *big.Rat { return big.NewRat(source.Int63n(9)-4, 1) },
	func(source *rand.Rand) *big.Rat { return big.NewRat(source.Int63n(39)-19, 1+source.Int63n(6)) },
	func(source *rand.Rand) *big.Rat {
		return big.NewRat(source.Int63()-source.Int63(), 1+source.Int63n(1000000000000))
	},
}

func randomPoints(source *rand.Rand, count int) []api.Vector {
	kind := kinds[source.Intn(len(kinds))]
	var out []api.Vector
	for range count {
		out = append(out, made(numbers{kind(source), kind(source), kind(source)}))
	}
	return out
}

// corners are those of a tetrahedron, and points outside and within it.
func corners() []api.Vector {
	return points("0 0 0, 2 0 0, 0 2 0, 0 0 2, 1 0 0, 1 1 0, 1/3 1/3 1/3, 3 0 0, 0 0 -1/1000000000000")
}

// tetrahedron is a whole body.
const tetrahedron = "acb abd bcd cad"

// randomClosed returns a closed solid: some tetrahedra between random points, of either orientation, which often have points in common, and sometimes lie in a plane.
func randomClosed(source *rand.Rand) api.Solid {
	var out api.Solid
	for range 1 + source.Intn(4) {
		out = append(out, triangles(randomPoints(source, 4), tetrahedron)...)
	}
	return out
}

// convexBodies returns whole bodies without a dent.
func convexBodies(t *testing.T) []api.Solid {
	t.Helper()
	return []api.Solid{
		triangles(corners(), tetrahedron),
		box(t, "0 0 0", "2 1 1"),
		box(t, "-1/2 0 -3", "7 1/3 1000000000000"),
		prism(t, points("0 0 0, 3 0 0, 4 1 0, 2 3/2 0, -1 1 0"), "1 1/2 2"),
		prism(t, points("0 0 0, 0 1/7 1/7, 0 -1/3 5"), "9 1 1/2"),
		triangles(corners(), "acf afb abd bfd fcd cad"),
		triangles(corners(), "ace ecb aeb abd bcd cad"),
		triangles(corners(), tetrahedron+" ggg aga"),
		nil,
	}
}

// someSolids are solids of many kinds that are right.
func someSolids(t *testing.T) []api.Solid {
	t.Helper()
	body := box(t, "0 0 0", "1 1 1")
	out := append(convexBodies(t),
		need[api.Solid](t)(mesh.Reverse(body)),
		prism(t, points("0 0 0, 3 0 0, 3 1 0, 1 1 0, 1 3 0, 0 3 0"), "0 0 1"),
		prism(t, points("0 0 0, 3 0 0, 0 3 0"), "0 0 -1"),
		cat(body, box(t, "2 0 0", "3 1 1"), box(t, "1 1 1", "2 2 2")),
		cat(box(t, "-1 -1 -1", "2 2 2"), need[api.Solid](t)(mesh.Reverse(body))),
		triangles(corners(), "abc acb aaa aeb abe"),
		triangles(corners(), "abc abc acb cba aad dda"),
	)
	source := rand.New(rand.NewSource(1))
	for range 10 {
		out = append(out, randomClosed(source))
	}
	return out
}

// somePlanes returns planes of many kinds: across a solid and beside it, through none, one, two or three of its points, and in its faces.
func somePlanes(t *testing.T, source *rand.Rand, s api.Solid) []api.Plane {
	t.Helper()
	out := []api.Plane{plane("0 0 1 1/2"), plane("0 0 -1 -1/2"), plane("0 0 7 0"), plane("-1/2 0 0 0"), plane("1 1 1 -99999"), plane("1 1 1 1/3")}
	l := append(need[[]api.Vector](t)(mesh.Points(s)), randomPoints(source, 3)...)
	for range 2 {
		a, b, c := l[source.Intn(len(l))], l[source.Intn(len(l))], l[source.Intn(len(l))]
		if p, e := vector.Through(a, b, c); e == api.OK {
			out = append(out, p)
		}
		n := randomPoints(source, 1)[0]
		if n != point("0 0 0") {
			x := dotted(numbersOf(n), numbersOf(between(a, b, big.NewRat(source.Int63n(4), 3))))
			out = append(out, api.Plane{N: n, C: text(x)})
		}
	}
	return out
}

// each calls a function for solids and planes of many kinds.
func each(t *testing.T, see func(s api.Solid, p api.Plane)) {
	t.Helper()
	source := rand.New(rand.NewSource(2))
	for _, s := range someSolids(t) {
		for _, p := range somePlanes(t, source, s) {
			see(s, p)
		}
	}
}
