package bonjean

import (
	"math/big"
	"math/rand"
	"slices"
	"strings"
	"testing"

	"garboard/api"
	"garboard/attitude"
	"garboard/mesh"
)

// vec reads three numbers.
func vec(s string) api.Vector {
	words := strings.Fields(s)
	return api.Vector{X: api.Rat(words[0]), Y: api.Rat(words[1]), Z: api.Rat(words[2])}
}

// vecs reads points that are separated by commas.
func vecs(s string) []api.Vector {
	var out []api.Vector
	for part := range strings.SplitSeq(s, ",") {
		out = append(out, vec(part))
	}
	return out
}

// at reads the heel and the trim.
func at(s string) api.Attitude {
	words := strings.Fields(s)
	return api.Attitude{Heel: api.Rat(words[0]), Trim: api.Rat(words[1])}
}

// list reads numbers.
func list(s string) []api.Rat {
	var out []api.Rat
	for word := range strings.FieldsSeq(s) {
		out = append(out, api.Rat(word))
	}
	return out
}

// need returns a result that has to come without an error.
func need[T any](t *testing.T) func(result T, e api.Errno) T {
	t.Helper()
	return func(result T, e api.Errno) T {
		t.Helper()
		if e != api.OK {
			t.Fatalf("the error %d", e)
		}
		return result
	}
}

func box(t *testing.T, low, high string) api.Solid {
	t.Helper()
	return need[api.Solid](t)(mesh.Box(vec(low), vec(high)))
}

func prism(t *testing.T, polygon, along string) api.Solid {
	t.Helper()
	return need[api.Solid](t)(mesh.Prism(vecs(polygon), vec(along)))
}

// example is the box of layer 17.
func example(t *testing.T) api.Solid {
	t.Helper()
	return box(t, "0 -2 0", "10 2 3")
}

// tetrahedron is a whole body if its points are in this order: o, and the ends of three axes.
func tetrahedron(l []api.Vector) api.Solid {
	return api.Solid{{l[0], l[2], l[1]}, {l[0], l[1], l[3]}, {l[1], l[2], l[3]}, {l[2], l[0], l[3]}}
}

// numbers are coordinates as the tests compute with them.
type numbers [3]*big.Rat

func rat(x api.Rat) *big.Rat {
	n, ok := new(big.Rat).SetString(string(x))
	if !ok {
		panic("no number: " + string(x))
	}
	return n
}

func text(x *big.Rat) api.Rat { return api.Rat(x.RatString()) }

func values(r api.Vector) numbers { return numbers{rat(r.X), rat(r.Y), rat(r.Z)} }

func made(c numbers) api.Vector { return api.Vector{X: text(c[0]), Y: text(c[1]), Z: text(c[2])} }

func plus(l ...*big.Rat) *big.Rat {
	out := new(big.Rat)
	for _, x := range l {
		out.Add(out, x)
	}
	return out
}

func product(l ...*big.Rat) *big.Rat {
	out := big.NewRat(1, 1)
	for _, x := range l {
		out.Mul(out, x)
	}
	return out
}

func minus(x, y *big.Rat) *big.Rat { return new(big.Rat).Sub(x, y) }

func quotient(x, y *big.Rat) *big.Rat { return new(big.Rat).Quo(x, y) }

func dot(a, b numbers) *big.Rat {
	return plus(product(a[0], b[0]), product(a[1], b[1]), product(a[2], b[2]))
}

// onWay returns what lies at a part of the way from one point to another one.
func onWay(p, q numbers, part *big.Rat) numbers {
	var out numbers
	for i := range out {
		out[i] = plus(p[i], product(minus(q[i], p[i]), part))
	}
	return out
}

// height returns that of a point above the water.
func height(up numbers, d api.Rat, p numbers) *big.Rat { return minus(dot(up, p), rat(d)) }

func upOf(t *testing.T, a api.Attitude) numbers {
	t.Helper()
	return values(need[api.Frame](t)(attitude.Of(a)).Up)
}

// normal returns the normal of a triangle.
func normal(t [3]numbers) numbers {
	var b, c, out numbers
	for i := range out {
		b[i], c[i] = minus(t[1][i], t[0][i]), minus(t[2][i], t[0][i])
	}
	for i := range out {
		j, k := (i+1)%3, (i+2)%3
		out[i] = minus(product(b[j], c[k]), product(b[k], c[j]))
	}
	return out
}

// known are the integrals over the section as the tests know them: the faces are cut by the plane just ahead, what of the edges is in the water runs around the section as the normals of the faces say, and no cap is needed, because the integrals are taken about a point in the water's surface.
func known(t *testing.T, s api.Solid, a api.Attitude, d, x api.Rat) api.Slice {
	t.Helper()
	up, place := upOf(t, a), rat(x)
	way := quotient(minus(rat(d), product(up[0], place)), plus(product(up[1], up[1]), product(up[2], up[2])))
	o := numbers{place, product(up[1], way), product(up[2], way)}
	area, y, z := new(big.Rat), new(big.Rat), new(big.Rat)
	for _, triangle := range s {
		face := [3]numbers{values(triangle[0]), values(triangle[1]), values(triangle[2])}
		edge, isEdge := inWater(across(face, place), up, d)
		if !isEdge {
			continue
		}
		p, q, n := edge[0], edge[1], normal(face)
		if minus(product(n[1], minus(q[2], p[2])), product(n[2], minus(q[1], p[1]))).Sign() < 0 {
			p, q = q, p
		}
		half := product(big.NewRat(1, 2), minus(product(minus(p[1], o[1]), minus(q[2], o[2])), product(minus(p[2], o[2]), minus(q[1], o[1]))))
		area = plus(area, half)
		y = plus(y, product(half, big.NewRat(1, 3), plus(o[1], p[1], q[1])))
		z = plus(z, product(half, big.NewRat(1, 3), plus(o[2], p[2], q[2])))
	}
	return api.Slice{X: x, Area: text(area), Y: text(y), Z: text(z)}
}

// across returns where the edges of a triangle cross the plane just ahead of a place.
func across(face [3]numbers, place *big.Rat) []numbers {
	var out []numbers
	for i, p := range face {
		q := face[(i+1)%3]
		if (p[0].Cmp(place) > 0) != (q[0].Cmp(place) > 0) {
			out = append(out, onWay(p, q, quotient(minus(place, p[0]), minus(q[0], p[0]))))
		}
	}
	return out
}

// inWater returns what of an edge is in the water.
func inWater(edge []numbers, up numbers, d api.Rat) ([2]numbers, bool) {
	if len(edge) == 0 {
		return [2]numbers{}, false
	}
	p, q := edge[0], edge[1]
	first, second := height(up, d, p), height(up, d, q)
	if first.Sign() > 0 && second.Sign() > 0 {
		return [2]numbers{}, false
	}
	if first.Sign() > 0 {
		p = onWay(p, q, quotient(first, minus(first, second)))
	}
	if second.Sign() > 0 {
		q = onWay(q, p, quotient(second, minus(second, height(up, d, p))))
	}
	return [2]numbers{p, q}, true
}

// knownBreaks asks all vertices and all edges.
func knownBreaks(t *testing.T, s api.Solid, a api.Attitude, d api.Rat) []api.Rat {
	t.Helper()
	up := upOf(t, a)
	var out []*big.Rat
	for _, triangle := range s {
		for i := range triangle {
			p, q := values(triangle[i]), values(triangle[(i+1)%3])
			first, second := height(up, d, p), height(up, d, q)
			if first.Sign() <= 0 {
				out = append(out, p[0])
			}
			if (first.Sign() > 0) != (second.Sign() > 0) {
				out = append(out, onWay(p, q, quotient(first, minus(first, second)))[0])
			}
		}
	}
	slices.SortFunc(out, (*big.Rat).Cmp)
	var texts []api.Rat
	for _, x := range out {
		texts = append(texts, text(x))
	}
	return slices.Compact(texts)
}

// knownSums follow the definition.
func knownSums(t *testing.T, s api.Solid, a api.Attitude, d api.Rat) (volume, moment api.Rat) {
	t.Helper()
	sum, first := new(big.Rat), new(big.Rat)
	l := knownBreaks(t, s, a, d)
	for i := 1; i < len(l); i++ {
		from, h := rat(l[i-1]), minus(rat(l[i]), rat(l[i-1]))
		for k, weight := range []int64{2, -1, 2} {
			x := plus(from, product(h, big.NewRat(int64(k+1), 4)))
			term := product(h, big.NewRat(weight, 3), rat(known(t, s, a, d, text(x)).Area))
			sum, first = plus(sum, term), plus(first, product(x, term))
		}
	}
	return text(sum), text(first)
}

// stepped is a whole body with a deck at the height 1, ahead of a part that is higher: at 3 a face lies across the ship.
func stepped(t *testing.T) api.Solid {
	t.Helper()
	return prism(t, "0 2 0, 10 2 0, 10 2 1, 3 2 1, 3 2 2, 0 2 2", "0 -4 0")
}

// convexBodies are whole bodies without a dent.
func convexBodies(t *testing.T) []api.Solid {
	t.Helper()
	return []api.Solid{
		example(t),
		box(t, "-1/2 -1/3 -7", "5 9/4 1/1000000007"),
		tetrahedron(vecs("0 0 0, 2 0 0, 0 2 0, 0 0 2")),
		tetrahedron(vecs("-3 -1/7 0, 20/3 1 1/2, 1 5 -1/9, 2 2 12345/1001")),
		prism(t, "0 0 0, 3 0 0, 4 1 0, 2 3/2 0, -1 1 0", "1 1/2 2"),
		prism(t, "0 0 0, 0 2 1, 0 2 3, 0 -2 3, 0 -2 1", "9 0 1/2"),
	}
}

// bodies are closed solids of many kinds: whole ones, with a step, with an overhang, with a dent, with a hole, several ones, inside out, flat, and with the same triangles twice.
func bodies(t *testing.T) []api.Solid {
	t.Helper()
	hole := need[api.Solid](t)(mesh.Reverse(box(t, "1 -1 1", "2 1 2")))
	flat := vecs("0 0 1, 4 0 1, 0 4 1")
	out := append(convexBodies(t),
		stepped(t),
		prism(t, "0 2 0, 3 2 0, 3 2 1, 10 2 1, 10 2 2, 0 2 2", "0 -4 0"),
		prism(t, "0 0 0, 3 0 0, 1 1 0, 0 3 0", "1/3 0 2"),
		slices.Concat(example(t), hole),
		hole,
		slices.Concat(box(t, "0 -3 -1", "7 -2 1"), box(t, "0 2 -1", "7 3 1")),
		slices.Concat(example(t), example(t)),
		api.Solid{{flat[0], flat[1], flat[2]}, {flat[0], flat[2], flat[1]}},
	)
	source := rand.New(rand.NewSource(1))
	for range 4 {
		out = append(out, slices.Concat(tetrahedron(randomPoints(source)), tetrahedron(randomPoints(source))))
	}
	return out
}

// randomPoints returns four points of one of several kinds: with few different coordinates, with quotients, and with long numbers.
func randomPoints(source *rand.Rand) []api.Vector {
	kinds := []func() *big.Rat{
		func() *big.Rat { return big.NewRat(source.Int63n(4), 1) },
		func() *big.Rat { return big.NewRat(source.Int63n(39)-19, 1+source.Int63n(6)) },
		func() *big.Rat { return big.NewRat(source.Int63n(2000000)-1000000, 1+source.Int63n(100000)) },
	}
	kind := kinds[source.Intn(len(kinds))]
	var out []api.Vector
	for range 4 {
		out = append(out, made(numbers{kind(), kind(), kind()}))
	}
	return out
}

// attitudes are those at the ends of the range, upright ones, and some between.
func attitudes() []api.Attitude {
	return []api.Attitude{at("0 0"), at("1/2 0"), at("0 1/2"), at("1 0"), at("-1 -1/2"), at("1/3 -1/3"), at("-2/7 1/8388608"), at("12345/54322 -101/997")}
}

// among returns some numbers, such below and above them, and two between the least and the greatest one.
func among(l []*big.Rat) []api.Rat {
	slices.SortFunc(l, (*big.Rat).Cmp)
	least, most := l[0], l[len(l)-1]
	out := []*big.Rat{minus(least, big.NewRat(1, 3)), least, most, plus(most, big.NewRat(7, 1)), l[len(l)/2]}
	for _, part := range []*big.Rat{big.NewRat(1, 3), big.NewRat(5461, 8192)} {
		out = append(out, plus(least, product(part, minus(most, least))))
	}
	var texts []api.Rat
	for _, x := range out {
		texts = append(texts, text(x))
	}
	return texts
}

// levels returns those at which the water is below and above a solid, at its points, and between them.
func levels(t *testing.T, s api.Solid, a api.Attitude) []api.Rat {
	t.Helper()
	up := upOf(t, a)
	var heights []*big.Rat
	for _, triangle := range s {
		for _, r := range triangle {
			heights = append(heights, dot(up, values(r)))
		}
	}
	return among(heights)
}

// places returns such X coordinates.
func places(s api.Solid) []api.Rat {
	var out []*big.Rat
	for _, triangle := range s {
		for _, r := range triangle {
			out = append(out, rat(r.X))
		}
	}
	return among(out)
}

// each calls a function for solids, attitudes and levels of many kinds; of the attitudes each solid has some, and the next one has others.
func each(t *testing.T, l []api.Solid, see func(s api.Solid, a api.Attitude, d api.Rat)) {
	t.Helper()
	for i, s := range l {
		for k, a := range attitudes() {
			if (i+k)%4 != 0 {
				continue
			}
			for _, d := range levels(t, s, a) {
				see(s, a, d)
			}
		}
	}
}
