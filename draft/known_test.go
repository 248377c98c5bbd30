package draft

import (
	"math/big"
	"math/rand"
	"slices"
	"strings"
	"testing"

	"garboard/api"
	"garboard/attitude"
	"garboard/float"
	"garboard/mesh"
)

// point reads three numbers.
func point(s string) api.Vector {
	words := strings.Fields(s)
	return api.Vector{X: api.Rat(words[0]), Y: api.Rat(words[1]), Z: api.Rat(words[2])}
}

// points reads points that are separated by commas.
func points(s string) []api.Vector {
	var out []api.Vector
	for part := range strings.SplitSeq(s, ",") {
		out = append(out, point(part))
	}
	return out
}

// at reads the heel and the trim.
func at(s string) api.Attitude {
	words := strings.Fields(s)
	return api.Attitude{Heel: api.Rat(words[0]), Trim: api.Rat(words[1])}
}

// ends reads both ends.
func ends(s string) api.Interval {
	words := strings.Fields(s)
	return api.Interval{Lo: api.Rat(words[0]), Hi: api.Rat(words[1])}
}

// spot reads the three intervals.
func spot(s string) api.Spot {
	words := strings.Fields(s)
	pair := func(i int) api.Interval {
		return api.Interval{Lo: api.Rat(words[i]), Hi: api.Rat(words[i+1])}
	}
	return api.Spot{Ahead: pair(0), Side: pair(2), Up: pair(4)}
}

// need returns a result that has to come without an error.
func need[T any](t *testing.T) func(result T, e api.Errno) T {
	t.Helper()
	return func(result T, e api.Errno) T {
		t.Helper()
		if e != api.OK {
			t.Fatalf("the error %d", e)
		}
		return result
	}
}

func box(t *testing.T, low, high string) api.Solid {
	t.Helper()
	return need[api.Solid](t)(mesh.Box(point(low), point(high)))
}

func prism(t *testing.T, polygon, along string) api.Solid {
	t.Helper()
	return need[api.Solid](t)(mesh.Prism(points(polygon), point(along)))
}

// example is the box of layer 17.
func example(t *testing.T) api.Solid {
	t.Helper()
	return box(t, "0 -2 0", "10 2 3")
}

func reversed(t *testing.T, s api.Solid) api.Solid {
	t.Helper()
	return need[api.Solid](t)(mesh.Reverse(s))
}

// tetrahedron is a whole body if its points are in this order: o, and the ends of three axes.
func tetrahedron(l []api.Vector) api.Solid {
	return api.Solid{{l[0], l[2], l[1]}, {l[0], l[1], l[3]}, {l[1], l[2], l[3]}, {l[2], l[0], l[3]}}
}

// triple are coordinates as the tests compute with them.
type triple [3]*big.Rat

func rat(x api.Rat) *big.Rat {
	n, ok := new(big.Rat).SetString(string(x))
	if !ok {
		panic("no number: " + string(x))
	}
	return n
}

func text(x *big.Rat) api.Rat { return api.Rat(x.RatString()) }

func values(r api.Vector) triple { return triple{rat(r.X), rat(r.Y), rat(r.Z)} }

func sum(l ...*big.Rat) *big.Rat {
	out := new(big.Rat)
	for _, x := range l {
		out.Add(out, x)
	}
	return out
}

func product(l ...*big.Rat) *big.Rat {
	out := big.NewRat(1, 1)
	for _, x := range l {
		out.Mul(out, x)
	}
	return out
}

func difference(x, y *big.Rat) *big.Rat { return new(big.Rat).Sub(x, y) }

func quotient(x, y *big.Rat) *big.Rat { return new(big.Rat).Quo(x, y) }

func dot(a, b triple) *big.Rat {
	return sum(product(a[0], b[0]), product(a[1], b[1]), product(a[2], b[2]))
}

// between returns what lies at a part of the way from one number to another one.
func between(x, y, part *big.Rat) *big.Rat { return sum(x, product(difference(y, x), part)) }

// axes are the unit vectors of an attitude.
func axes(t *testing.T, a api.Attitude) [3]triple {
	t.Helper()
	f := need[api.Frame](t)(attitude.Of(a))
	return [3]triple{values(f.Ahead), values(f.Side), values(f.Up)}
}

func volumeAt(t *testing.T, s api.Solid, a api.Attitude, d *big.Rat) *big.Rat {
	t.Helper()
	return rat(need[api.Rat](t)(float.Volume(s, a, text(d))))
}

// extentAlong returns the least and the greatest coordinates along an axis.
func extentAlong(s api.Solid, axis triple) (least, most *big.Rat) {
	for _, triangle := range s {
		for _, r := range triangle {
			x := dot(axis, values(r))
			if least == nil || x.Cmp(least) < 0 {
				least = x
			}
			if most == nil || x.Cmp(most) > 0 {
				most = x
			}
		}
	}
	return least, most
}

// knownLevel halves as the chapter says.
func knownLevel(t *testing.T, s api.Solid, a api.Attitude, volume *big.Rat, k int) api.Interval {
	t.Helper()
	low, high := extentAlong(s, axes(t, a)[2])
	for range k {
		middle := between(low, high, big.NewRat(1, 2))
		if volumeAt(t, s, a, middle).Cmp(volume) <= 0 {
			low = middle
		} else {
			high = middle
		}
	}
	return api.Interval{Lo: text(low), Hi: text(high)}
}

func isRight(t *testing.T, s api.Solid, a api.Attitude, volume *big.Rat, level api.Interval) bool {
	t.Helper()
	low, high := rat(level.Lo), rat(level.Hi)
	return low.Cmp(high) <= 0 && volumeAt(t, s, a, low).Cmp(volume) <= 0 && volumeAt(t, s, a, high).Cmp(volume) >= 0
}

// knownSpot returns the enclosure of the moments, divided by a number. What is missing is not negative.
func knownSpot(t *testing.T, s api.Solid, a api.Attitude, volume *big.Rat, level api.Interval, by *big.Rat) api.Spot {
	t.Helper()
	missing := difference(volume, volumeAt(t, s, a, rat(level.Lo)))
	known := values(need[api.Vector](t)(float.Moments(s, a, level.Lo)))
	var out [3]api.Interval
	for i, axis := range axes(t, a) {
		least, most := extentAlong(s, axis)
		if i == 2 {
			least, most = rat(level.Lo), rat(level.Hi)
		}
		low := quotient(sum(dot(axis, known), product(missing, least)), by)
		high := quotient(sum(dot(axis, known), product(missing, most)), by)
		if by.Sign() < 0 {
			low, high = high, low
		}
		out[i] = api.Interval{Lo: text(low), Hi: text(high)}
	}
	return api.Spot{Ahead: out[0], Side: out[1], Up: out[2]}
}

// isWithin reports whether an interval is within another one.
func isWithin(a, b api.Interval) bool {
	return rat(b.Lo).Cmp(rat(a.Lo)) <= 0 && rat(a.Hi).Cmp(rat(b.Hi)) <= 0
}

func isSpotWithin(a, b api.Spot) bool {
	return isWithin(a.Ahead, b.Ahead) && isWithin(a.Side, b.Side) && isWithin(a.Up, b.Up)
}

// convexBodies are whole bodies without a dent.
func convexBodies(t *testing.T) []api.Solid {
	t.Helper()
	return []api.Solid{
		example(t),
		box(t, "-1/2 -1/3 -7", "5 9/4 1/1000000007"),
		tetrahedron(points("0 0 0, 2 0 0, 0 2 0, 0 0 2")),
		tetrahedron(points("-3 -1/7 0, 20/3 1 1/2, 1 5 -1/9, 2 2 12345/1001")),
		prism(t, "0 0 0, 3 0 0, 4 1 0, 2 3/2 0, -1 1 0", "1 1/2 2"),
	}
}

// wholeBodies have volumes that do not get smaller if the level rises: with a step, with a dent, with a gap in which nothing is, with the same triangles twice, and flat.
func wholeBodies(t *testing.T) []api.Solid {
	t.Helper()
	flat := points("0 0 1, 4 0 1, 0 4 1")
	return append(convexBodies(t),
		prism(t, "0 2 0, 10 2 0, 10 2 1, 3 2 1, 3 2 2, 0 2 2", "0 -4 0"),
		prism(t, "0 0 0, 3 0 0, 1 1 0, 0 3 0", "1/3 0 2"),
		slices.Concat(box(t, "0 -1 0", "4 1 1"), box(t, "0 -1 3", "4 1 4")),
		slices.Concat(example(t), example(t)),
		api.Solid{{flat[0], flat[1], flat[2]}, {flat[0], flat[2], flat[1]}},
	)
}

// bodies are others, too: inside out, with a part that counts negatively above one that does not, and any two.
func bodies(t *testing.T) []api.Solid {
	t.Helper()
	out := append(wholeBodies(t),
		reversed(t, example(t)),
		slices.Concat(example(t), reversed(t, box(t, "1 -2 4", "3 1 6"))),
		slices.Concat(reversed(t, box(t, "1 -2 -4", "3 1 -2")), example(t)),
	)
	source := rand.New(rand.NewSource(1))
	for range 3 {
		out = append(out, slices.Concat(tetrahedron(randomPoints(source)), tetrahedron(randomPoints(source))))
	}
	return out
}

func randomPoints(source *rand.Rand) []api.Vector {
	number := func() api.Rat { return text(big.NewRat(source.Int63n(39)-19, 1+source.Int63n(6))) }
	var out []api.Vector
	for range 4 {
		out = append(out, api.Vector{X: number(), Y: number(), Z: number()})
	}
	return out
}

// attitudes are those at the ends of the range, upright ones, and some between.
func attitudes() []api.Attitude {
	return []api.Attitude{at("0 0"), at("1/2 0"), at("0 1/2"), at("1 0"), at("-1 -1/2"), at("1/3 -1/3"), at("-2/7 1/8388608"), at("12345/54322 -101/997")}
}

// each calls a function for solids and attitudes of many kinds; of the attitudes each solid has some, and the next one has others.
func each(t *testing.T, l []api.Solid, see func(s api.Solid, a api.Attitude)) {
	t.Helper()
	for i, s := range l {
		for k, a := range attitudes() {
			if (i+k)%4 == 0 {
				see(s, a)
			}
		}
	}
}

// parts are such of a whole, both ends among them.
func parts() []*big.Rat {
	return []*big.Rat{new(big.Rat), big.NewRat(1, 1000003), big.NewRat(1, 3), big.NewRat(1, 2), big.NewRat(1, 1)}
}

// wholeOf returns the volume of a solid.
func wholeOf(t *testing.T, s api.Solid, a api.Attitude) *big.Rat {
	t.Helper()
	_, top := extentAlong(s, axes(t, a)[2])
	return volumeAt(t, s, a, top)
}
