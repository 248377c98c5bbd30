package liquid

import (
	"math/big"
	"slices"
	"strings"
	"testing"

	"garboard/api"
	"garboard/attitude"
	"garboard/float"
	"garboard/mesh"
	"garboard/tank"
)

// point reads three numbers.
func point(s string) api.Vector {
	words := strings.Fields(s)
	return api.Vector{X: api.Rat(words[0]), Y: api.Rat(words[1]), Z: api.Rat(words[2])}
}

// points reads points that are separated by commas.
func points(s string) []api.Vector {
	var out []api.Vector
	for part := range strings.SplitSeq(s, ",") {
		out = append(out, point(part))
	}
	return out
}

// at reads the heel and the trim.
func at(s string) api.Attitude {
	words := strings.Fields(s)
	return api.Attitude{Heel: api.Rat(words[0]), Trim: api.Rat(words[1])}
}

// ends reads both ends.
func ends(s string) api.Interval {
	words := strings.Fields(s)
	return api.Interval{Lo: api.Rat(words[0]), Hi: api.Rat(words[1])}
}

// spot reads the three intervals.
func spot(s string) api.Spot {
	words := strings.Fields(s)
	pair := func(i int) api.Interval {
		return api.Interval{Lo: api.Rat(words[i]), Hi: api.Rat(words[i+1])}
	}
	return api.Spot{Ahead: pair(0), Side: pair(2), Up: pair(4)}
}

// need returns a result that has to come without an error.
func need[T any](t *testing.T) func(result T, e api.Errno) T {
	t.Helper()
	return func(result T, e api.Errno) T {
		t.Helper()
		if e != api.OK {
			t.Fatalf("the error %d", e)
		}
		return result
	}
}

func box(t *testing.T, low, high string) api.Solid {
	t.Helper()
	return need[api.Solid](t)(mesh.Box(point(low), point(high)))
}

func prism(t *testing.T, polygon, along string) api.Solid {
	t.Helper()
	return need[api.Solid](t)(mesh.Prism(points(polygon), point(along)))
}

func reversed(t *testing.T, s api.Solid) api.Solid {
	t.Helper()
	return need[api.Solid](t)(mesh.Reverse(s))
}

// tetrahedron is a whole body if its points are in this order: o, and the ends of three axes.
func tetrahedron(l []api.Vector) api.Solid {
	return api.Solid{{l[0], l[2], l[1]}, {l[0], l[1], l[3]}, {l[1], l[2], l[3]}, {l[2], l[0], l[3]}}
}

func tankOf(s api.Solid, permeability api.Rat) api.Tank {
	return api.Tank{Name: "No.1-P", Space: s, Permeability: permeability, Density: "41/40"}
}

// example is the tank of layer 22.
func example(t *testing.T) api.Tank {
	t.Helper()
	return tankOf(box(t, "0 -2 0", "10 2 3"), "9/10")
}

// convexTanks have spaces that are whole bodies without a dent.
func convexTanks(t *testing.T) []api.Tank {
	t.Helper()
	return []api.Tank{
		example(t),
		tankOf(box(t, "-1/2 -1/3 -7", "5 9/4 1/1000000007"), "1"),
		tankOf(tetrahedron(points("0 0 0, 2 0 0, 0 2 0, 0 0 2")), "1/1000000007"),
		tankOf(tetrahedron(points("-3 -1/7 0, 20/3 1 1/2, 1 5 -1/9, 2 2 12345/1001")), "2/3"),
		tankOf(prism(t, "0 0 0, 3 0 0, 4 1 0, 2 3/2 0, -1 1 0", "1 1/2 2"), "19/20"),
	}
}

// tanks are others, too: with a step, with a dent, in two parts, twice the same, and with a part that counts negatively.
func tanks(t *testing.T) []api.Tank {
	t.Helper()
	s := example(t).Space
	return append(convexTanks(t),
		tankOf(prism(t, "0 2 0, 10 2 0, 10 2 1, 3 2 1, 3 2 2, 0 2 2", "0 -4 0"), "1"),
		tankOf(prism(t, "0 0 0, 3 0 0, 1 1 0, 0 3 0", "1/3 0 2"), "3/7"),
		tankOf(slices.Concat(box(t, "0 -1 0", "4 1 1"), box(t, "0 -1 3", "4 1 4")), "9/10"),
		tankOf(slices.Concat(s, s), "1/2"),
		tankOf(slices.Concat(s, reversed(t, box(t, "1 -2 4", "3 1 6"))), "9/10"),
	)
}

// attitudes are those at the ends of the range, upright ones, and some between.
func attitudes() []api.Attitude {
	return []api.Attitude{at("0 0"), at("1/2 0"), at("0 1/2"), at("1 0"), at("-1 -1/2"), at("1/3 -1/3"), at("-2/7 1/8388608"), at("12345/54322 -101/997")}
}

// each calls a function for tanks at attitudes of many kinds; of the attitudes each tank has some, and the next one has others.
func each(t *testing.T, l []api.Tank, see func(x api.Tank, a api.Attitude)) {
	t.Helper()
	for i, x := range l {
		for k, a := range attitudes() {
			if (i+k)%3 == 0 {
				see(x, a)
			}
		}
	}
}

// parts are such of a capacity, neither of them exact at a middle.
func parts() []*big.Rat {
	return []*big.Rat{big.NewRat(1, 1000003), big.NewRat(1, 3), big.NewRat(5, 9), big.NewRat(999, 1000)}
}

// partOf returns a part of the capacity.
func partOf(t *testing.T, x api.Tank, part *big.Rat) api.Rat {
	t.Helper()
	return text(product(rat(need[api.Rat](t)(tank.Capacity(x))), part))
}

// triple are coordinates as the tests compute with them.
type triple [3]*big.Rat

func rat(x api.Rat) *big.Rat {
	n, ok := new(big.Rat).SetString(string(x))
	if !ok {
		panic("no number: " + string(x))
	}
	return n
}

func text(x *big.Rat) api.Rat { return api.Rat(x.RatString()) }

func values(r api.Vector) triple { return triple{rat(r.X), rat(r.Y), rat(r.Z)} }

func sum(l ...*big.Rat) *big.Rat {
	out := new(big.Rat)
	for _, x := range l {
		out.Add(out, x)
	}
	return out
}

func product(x, y *big.Rat) *big.Rat { return new(big.Rat).Mul(x, y) }

func difference(x, y *big.Rat) *big.Rat { return new(big.Rat).Sub(x, y) }

func quotient(x, y *big.Rat) *big.Rat { return new(big.Rat).Quo(x, y) }

func dot(a, b triple) *big.Rat {
	return sum(product(a[0], b[0]), product(a[1], b[1]), product(a[2], b[2]))
}

// axes are the unit vectors of an attitude.
func axes(t *testing.T, a api.Attitude) [3]triple {
	t.Helper()
	f := need[api.Frame](t)(attitude.Of(a))
	return [3]triple{values(f.Ahead), values(f.Side), values(f.Up)}
}

// leastAndMost returns those of some numbers.
func leastAndMost(l []*big.Rat) (least, most *big.Rat) {
	return slices.MinFunc(l, (*big.Rat).Cmp), slices.MaxFunc(l, (*big.Rat).Cmp)
}

// extentAlong returns the least and the greatest coordinates along an axis.
func extentAlong(s api.Solid, axis triple) (least, most *big.Rat) {
	var l []*big.Rat
	for _, triangle := range s {
		for _, r := range triangle {
			l = append(l, dot(axis, values(r)))
		}
	}
	return leastAndMost(l)
}

func volumeAt(t *testing.T, x api.Tank, a api.Attitude, d *big.Rat) *big.Rat {
	t.Helper()
	return rat(need[api.Rat](t)(tank.Volume(x, a, text(d))))
}

// knownLevel halves as the definition says, asking volumes of the tank.
func knownLevel(t *testing.T, x api.Tank, a api.Attitude, volume api.Rat, k int) api.Interval {
	t.Helper()
	low, high := extentAlong(x.Space, axes(t, a)[2])
	switch volume {
	case need[api.Rat](t)(tank.Capacity(x)):
		return api.Interval{Lo: text(high), Hi: text(high)}
	case "0":
		return api.Interval{Lo: text(low), Hi: text(low)}
	}
	for range k {
		middle := quotient(sum(low, high), big.NewRat(2, 1))
		if volumeAt(t, x, a, middle).Cmp(rat(volume)) <= 0 {
			low = middle
		} else {
			high = middle
		}
	}
	return api.Interval{Lo: text(low), Hi: text(high)}
}

// knownCentre encloses the centre as layer 20 says, by a level. Volumes are those of the space.
func knownCentre(t *testing.T, x api.Tank, a api.Attitude, volume api.Rat, level api.Interval) api.Spot {
	t.Helper()
	whole := quotient(rat(volume), rat(x.Permeability))
	missing := difference(whole, rat(need[api.Rat](t)(float.Volume(x.Space, a, level.Lo))))
	known := values(need[api.Vector](t)(float.Moments(x.Space, a, level.Lo)))
	var out [3]api.Interval
	for i, axis := range axes(t, a) {
		least, most := extentAlong(x.Space, axis)
		if i == 2 {
			least, most = rat(level.Lo), rat(level.Hi)
		}
		low := quotient(sum(dot(axis, known), product(missing, least)), whole)
		high := quotient(sum(dot(axis, known), product(missing, most)), whole)
		out[i] = api.Interval{Lo: text(low), Hi: text(high)}
	}
	return api.Spot{Ahead: out[0], Side: out[1], Up: out[2]}
}

// knownTurned looks at all eight corners of an enclosure, of which one has the least value, and one the greatest.
func knownTurned(t *testing.T, x api.Spot, a api.Attitude) api.Spot {
	t.Helper()
	var out [3]api.Interval
	for i, axis := range axes(t, a) {
		var l []*big.Rat
		for _, ahead := range []api.Rat{x.Ahead.Lo, x.Ahead.Hi} {
			for _, side := range []api.Rat{x.Side.Lo, x.Side.Hi} {
				for _, up := range []api.Rat{x.Up.Lo, x.Up.Hi} {
					l = append(l, dot(axis, triple{rat(ahead), rat(side), rat(up)}))
				}
			}
		}
		least, most := leastAndMost(l)
		out[i] = api.Interval{Lo: text(least), Hi: text(most)}
	}
	return api.Spot{Ahead: out[0], Side: out[1], Up: out[2]}
}

// isWithin reports whether an interval is within another one.
func isWithin(a, b api.Interval) bool {
	return rat(b.Lo).Cmp(rat(a.Lo)) <= 0 && rat(a.Hi).Cmp(rat(b.Hi)) <= 0
}

func isSpotWithin(a, b api.Spot) bool {
	return isWithin(a.Ahead, b.Ahead) && isWithin(a.Side, b.Side) && isWithin(a.Up, b.Up)
}
