package float

import (
	"math/big"
	"math/rand"
	"slices"
	"strings"
	"testing"

	"garboard/api"
	"garboard/attitude"
	"garboard/mesh"
)

// point reads three numbers.
func point(s string) api.Vector {
	words := strings.Fields(s)
	return api.Vector{X: api.Rat(words[0]), Y: api.Rat(words[1]), Z: api.Rat(words[2])}
}

// points reads points that are separated by commas.
func points(s string) []api.Vector {
	var out []api.Vector
	for part := range strings.SplitSeq(s, ",") {
		out = append(out, point(part))
	}
	return out
}

// at reads the heel and the trim.
func at(s string) api.Attitude {
	words := strings.Fields(s)
	return api.Attitude{Heel: api.Rat(words[0]), Trim: api.Rat(words[1])}
}

// area reads the six integrals.
func area(s string) api.Area {
	words := strings.Fields(s)
	return api.Area{Area: api.Rat(words[0]), A: api.Rat(words[1]), B: api.Rat(words[2]), AA: api.Rat(words[3]), BB: api.Rat(words[4]), AB: api.Rat(words[5])}
}

// need returns a result that has to come without an error.
func need[T any](t *testing.T) func(result T, e api.Errno) T {
	t.Helper()
	return func(result T, e api.Errno) T {
		t.Helper()
		if e != api.OK {
			t.Fatalf("the error %d", e)
		}
		return result
	}
}

func box(t *testing.T, low, high string) api.Solid {
	t.Helper()
	return need[api.Solid](t)(mesh.Box(point(low), point(high)))
}

func prism(t *testing.T, polygon, along string) api.Solid {
	t.Helper()
	return need[api.Solid](t)(mesh.Prism(points(polygon), point(along)))
}

// example is the box of the chapter.
func example(t *testing.T) api.Solid {
	t.Helper()
	return box(t, "0 -2 0", "10 2 3")
}

// tetrahedron is a whole body if its points are in this order: o, and the ends of three axes.
func tetrahedron(l []api.Vector) api.Solid {
	return api.Solid{{l[0], l[2], l[1]}, {l[0], l[1], l[3]}, {l[1], l[2], l[3]}, {l[2], l[0], l[3]}}
}

// numbers are three coordinates as the tests compute with them.
type numbers [3]*big.Rat

func rat(x api.Rat) *big.Rat {
	n, ok := new(big.Rat).SetString(string(x))
	if !ok {
		panic("no number: " + string(x))
	}
	return n
}

func text(x *big.Rat) api.Rat { return api.Rat(x.RatString()) }

func values(r api.Vector) numbers { return numbers{rat(r.X), rat(r.Y), rat(r.Z)} }

func made(c numbers) api.Vector { return api.Vector{X: text(c[0]), Y: text(c[1]), Z: text(c[2])} }

func sum(l ...*big.Rat) *big.Rat {
	out := new(big.Rat)
	for _, x := range l {
		out.Add(out, x)
	}
	return out
}

func product(l ...*big.Rat) *big.Rat {
	out := big.NewRat(1, 1)
	for _, x := range l {
		out.Mul(out, x)
	}
	return out
}

func minus(x, y *big.Rat) *big.Rat { return new(big.Rat).Sub(x, y) }

// dot returns the scalar product.
func dot(a, b numbers) *big.Rat {
	return sum(product(a[0], b[0]), product(a[1], b[1]), product(a[2], b[2]))
}

// between returns what lies at a part of the way from one number to another one.
func between(x, y *big.Rat, part *big.Rat) *big.Rat { return sum(x, product(minus(y, x), part)) }

// known are the integrals that the tests know: by Gauss's theorem from the faces in the water alone, without a cap, in the coordinates of the water.
type known struct {
	volume *big.Rat
	moment numbers
	plane  [6]*big.Rat
}

// axes are the unit vectors of an attitude.
func axes(t *testing.T, a api.Attitude) [3]numbers {
	t.Helper()
	f := need[api.Frame](t)(attitude.Of(a))
	return [3]numbers{values(f.Ahead), values(f.Side), values(f.Up)}
}

// knownOf integrates over what of the faces has heights of a sign, up to the plane, or from it on.
func knownOf(t *testing.T, s api.Solid, a api.Attitude, d api.Rat, sign int) known {
	t.Helper()
	frame, zero := axes(t, a), new(big.Rat)
	out := known{zero, numbers{zero, zero, zero}, [6]*big.Rat{zero, zero, zero, zero, zero, zero}}
	for _, triangle := range s {
		var face []numbers
		for _, r := range triangle {
			face = append(face, numbers{dot(frame[0], values(r)), dot(frame[1], values(r)), minus(dot(frame[2], values(r)), rat(d))})
		}
		face = cut(face, sign)
		for i := 2; i < len(face); i++ {
			out.add([3]numbers{face[0], face[i-1], face[i]})
		}
	}
	out.moment[2] = sum(product(out.moment[2], big.NewRat(1, 2)), product(out.volume, rat(d)))
	var ship numbers
	for i := range ship {
		ship[i] = sum(product(out.moment[0], frame[0][i]), product(out.moment[1], frame[1][i]), product(out.moment[2], frame[2][i]))
	}
	out.moment = ship
	return out
}

// cut returns what of a polygon has heights of a sign, or 0.
func cut(l []numbers, sign int) []numbers {
	var out []numbers
	for i, p := range l {
		q := l[(i+1)%len(l)]
		if p[2].Sign() != -sign {
			out = append(out, p)
		}
		if p[2].Sign()*q[2].Sign() == -1 {
			part := new(big.Rat).Quo(p[2], minus(p[2], q[2]))
			out = append(out, numbers{between(p[0], q[0], part), between(p[1], q[1], part), new(big.Rat)})
		}
	}
	return out
}

// add adds the integrals over a triangle; the height is the last coordinate.
func (k *known) add(t [3]numbers) {
	size := product(big.NewRat(1, 2), minus(product(minus(t[1][0], t[0][0]), minus(t[2][1], t[0][1])), product(minus(t[2][0], t[0][0]), minus(t[1][1], t[0][1]))))
	total := func(i int) *big.Rat { return sum(t[0][i], t[1][i], t[2][i]) }
	linear := func(i int) *big.Rat { return product(size, total(i), big.NewRat(1, 3)) }
	square := func(i, j int) *big.Rat {
		return product(size, sum(product(total(i), total(j)), product(t[0][i], t[0][j]), product(t[1][i], t[1][j]), product(t[2][i], t[2][j])), big.NewRat(1, 12))
	}
	k.volume = sum(k.volume, linear(2))
	for i := range k.moment {
		k.moment[i] = sum(k.moment[i], square(i, 2))
	}
	for i, x := range []*big.Rat{size, linear(0), linear(1), square(0, 0), square(1, 1), square(0, 1)} {
		k.plane[i] = minus(k.plane[i], x)
	}
}

func (k known) area() api.Area {
	p := k.plane
	return api.Area{Area: text(p[0]), A: text(p[1]), B: text(p[2]), AA: text(p[3]), BB: text(p[4]), AB: text(p[5])}
}

// centre needs a volume other than 0.
func (k known) centre() api.Vector {
	share := new(big.Rat).Inv(k.volume)
	return made(numbers{product(k.moment[0], share), product(k.moment[1], share), product(k.moment[2], share)})
}

// stepped is a whole body with a deck at the height 1, ahead of a part that is higher.
func stepped(t *testing.T) api.Solid {
	t.Helper()
	return prism(t, "0 2 0, 10 2 0, 10 2 1, 3 2 1, 3 2 2, 0 2 2", "0 -4 0")
}

// overhanging is such a body upside down.
func overhanging(t *testing.T) api.Solid {
	t.Helper()
	return prism(t, "0 2 0, 3 2 0, 3 2 1, 10 2 1, 10 2 2, 0 2 2", "0 -4 0")
}

// convexBodies are whole bodies without a dent.
func convexBodies(t *testing.T) []api.Solid {
	t.Helper()
	return []api.Solid{
		example(t),
		box(t, "-1/2 -1/3 -7", "5 9/4 1/1000000007"),
		tetrahedron(points("0 0 0, 2 0 0, 0 2 0, 0 0 2")),
		tetrahedron(points("-3 -1/7 0, 20/3 1 1/2, 1 5 -1/9, 2 2 123456789/1000")),
		prism(t, "0 0 0, 3 0 0, 4 1 0, 2 3/2 0, -1 1 0", "1 1/2 2"),
		prism(t, "0 0 0, 0 2 1, 0 2 3, 0 -2 3, 0 -2 1", "9 0 1/2"),
	}
}

// bodies are closed solids of many kinds: whole ones, with a step, with an overhang, with a dent, with a hole, several ones, inside out, flat, and with the same triangles twice.
func bodies(t *testing.T) []api.Solid {
	t.Helper()
	hole := need[api.Solid](t)(mesh.Reverse(box(t, "1 -1 1", "2 1 2")))
	flat := points("0 0 1, 4 0 1, 0 4 1")
	out := append(convexBodies(t),
		stepped(t),
		overhanging(t),
		prism(t, "0 0 0, 3 0 0, 1 1 0, 0 3 0", "1/3 0 2"),
		slices.Concat(example(t), hole),
		hole,
		slices.Concat(box(t, "0 -3 -1", "7 -2 1"), box(t, "0 2 -1", "7 3 1")),
		slices.Concat(example(t), example(t)),
		api.Solid{{flat[0], flat[1], flat[2]}, {flat[0], flat[2], flat[1]}},
	)
	source := rand.New(rand.NewSource(1))
	for range 6 {
		out = append(out, slices.Concat(tetrahedron(randomPoints(source)), tetrahedron(randomPoints(source))))
	}
	return out
}

// randomPoints returns four points of one of several kinds: with few different coordinates, with quotients, and with long numbers.
func randomPoints(source *rand.Rand) []api.Vector {
	kinds := []func() *big.Rat{
		func() *big.Rat { return big.NewRat(source.Int63n(4), 1) },
		func() *big.Rat { return big.NewRat(source.Int63n(39)-19, 1+source.Int63n(6)) },
		func() *big.Rat { return big.NewRat(source.Int63n(2000000)-1000000, 1+source.Int63n(100000)) },
	}
	kind := kinds[source.Intn(len(kinds))]
	var out []api.Vector
	for range 4 {
		out = append(out, made(numbers{kind(), kind(), kind()}))
	}
	return out
}

// attitudes are those at the ends of the range, upright ones, and some between.
func attitudes() []api.Attitude {
	return []api.Attitude{at("0 0"), at("1/2 0"), at("0 1/2"), at("1 0"), at("-1 -1/2"), at("1/3 -1/3"), at("-2/7 1/8388608"), at("12345/54322 -101/997")}
}

// levels returns those at which the water is below and above a solid, at its points, and between them.
func levels(t *testing.T, s api.Solid, a api.Attitude) []api.Rat {
	t.Helper()
	var heights []*big.Rat
	up := axes(t, a)[2]
	for _, triangle := range s {
		for _, r := range triangle {
			heights = append(heights, dot(up, values(r)))
		}
	}
	slices.SortFunc(heights, (*big.Rat).Cmp)
	least, most := heights[0], heights[len(heights)-1]
	out := []api.Rat{text(minus(least, big.NewRat(1, 3))), text(least), text(most), text(sum(most, big.NewRat(7, 1))), text(heights[len(heights)/2])}
	for _, part := range []*big.Rat{big.NewRat(1, 1000), big.NewRat(1, 3), big.NewRat(1, 2), big.NewRat(5461, 8192)} {
		out = append(out, text(between(least, most, part)))
	}
	return out
}

// each calls a function for solids, attitudes and levels of many kinds; of the attitudes each solid has some, and the next one has others.
func each(t *testing.T, l []api.Solid, see func(s api.Solid, a api.Attitude, d api.Rat)) {
	t.Helper()
	for i, s := range l {
		for k, a := range attitudes() {
			if (i+k)%4 != 0 {
				continue
			}
			for _, d := range levels(t, s, a) {
				see(s, a, d)
			}
		}
	}
}
