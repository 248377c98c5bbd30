package trim

import (
	"math/big"
	"slices"
	"strings"
	"testing"

	"garboard/api"
	"garboard/float"
	"garboard/mesh"
)

// point reads three numbers.
func point(s string) api.Vector {
	words := strings.Fields(s)
	return api.Vector{X: api.Rat(words[0]), Y: api.Rat(words[1]), Z: api.Rat(words[2])}
}

// points reads points that are separated by commas.
func points(s string) []api.Vector {
	var out []api.Vector
	for part := range strings.SplitSeq(s, ",") {
		out = append(out, point(part))
	}
	return out
}

// at reads the heel and the trim.
func at(s string) api.Attitude {
	words := strings.Fields(s)
	return api.Attitude{Heel: api.Rat(words[0]), Trim: api.Rat(words[1])}
}

// pair reads two numbers.
func pair(s string) [2]api.Rat {
	words := strings.Fields(s)
	return [2]api.Rat{api.Rat(words[0]), api.Rat(words[1])}
}

// between reads both ends of an interval.
func between(s string) api.Interval {
	ends := pair(s)
	return api.Interval{Lo: ends[0], Hi: ends[1]}
}

// need returns a result that has to come without an error.
func need[T any](t *testing.T) func(result T, e api.Errno) T {
	t.Helper()
	return func(result T, e api.Errno) T {
		t.Helper()
		if e != api.OK {
			t.Fatalf("the error %d", e)
		}
		return result
	}
}

func box(t *testing.T, low, high string) api.Solid {
	t.Helper()
	return need[api.Solid](t)(mesh.Box(point(low), point(high)))
}

func prism(t *testing.T, polygon, along string) api.Solid {
	t.Helper()
	return need[api.Solid](t)(mesh.Prism(points(polygon), point(along)))
}

func reversed(t *testing.T, s api.Solid) api.Solid {
	t.Helper()
	return need[api.Solid](t)(mesh.Reverse(s))
}

// example is the box of layer 17.
func example(t *testing.T) api.Solid {
	t.Helper()
	return box(t, "0 -2 0", "10 2 3")
}

// wedge is a solid with four points.
func wedge() api.Solid {
	l := points("-4 -1/7 0, 20/3 1 1/2, 1 5 -1/9, 2 2 12345/1001")
	return api.Solid{{l[0], l[2], l[1]}, {l[0], l[1], l[3]}, {l[1], l[2], l[3]}, {l[2], l[0], l[3]}}
}

// hull has a sharp bow, and its sides lean outward.
func hull(t *testing.T) api.Solid {
	t.Helper()
	keel, deck := points("0 -1 0, 0 1 0, 8 0 0"), points("-1 -2 3, -1 2 3, 10 0 3")
	s := api.Solid{{keel[0], keel[1], keel[2]}, {deck[0], deck[2], deck[1]}}
	for i := range 3 {
		k := (i + 1) % 3
		s = append(s, api.Triangle{keel[i], deck[i], deck[k]}, api.Triangle{keel[i], deck[k], keel[k]})
	}
	return s
}

// underSlab is the example with a slab above it that counts negatively: more than the whole volume can be in the water.
func underSlab(t *testing.T) api.Solid {
	t.Helper()
	return slices.Concat(example(t), reversed(t, box(t, "1 -1 4", "3 1 6")))
}

// bodies are convex, with a step, with a dent, in two parts, and with a part that counts negatively.
func bodies(t *testing.T) []api.Solid {
	t.Helper()
	return []api.Solid{
		example(t),
		wedge(),
		hull(t),
		prism(t, "0 2 0, 10 2 0, 10 2 1, 3 2 1, 3 2 2, 0 2 2", "0 -4 0"),
		prism(t, "0 0 0, 3 0 0, 1 1 0, 0 3 0", "1/3 0 2"),
		slices.Concat(box(t, "0 -1 0", "4 1 1"), box(t, "6 -1 0", "9 1 2")),
		underSlab(t),
	}
}

// attitudes are those at the ends of the range, upright ones, and some between.
func attitudes() []api.Attitude {
	return []api.Attitude{at("0 0"), at("1/2 0"), at("0 1/2"), at("1 0"), at("-1 -1/2"), at("1/3 -1/3"), at("-2/7 1/8388608"), at("12345/54322 -101/997")}
}

// centres are centres of gravity.
func centres() []api.Vector {
	return points("0 0 0, 5 0 1, -1/3 2/7 10, 1/1000003 -5 -12345678901234567890")
}

// triple are coordinates as the tests compute with them.
type triple [3]*big.Rat

func rat(x api.Rat) *big.Rat {
	n, ok := new(big.Rat).SetString(string(x))
	if !ok {
		panic("no number: " + string(x))
	}
	return n
}

func text(x *big.Rat) api.Rat { return api.Rat(x.RatString()) }

func values(r api.Vector) triple { return triple{rat(r.X), rat(r.Y), rat(r.Z)} }

func sum(x, y *big.Rat) *big.Rat { return new(big.Rat).Add(x, y) }

func difference(x, y *big.Rat) *big.Rat { return new(big.Rat).Sub(x, y) }

func product(x, y *big.Rat) *big.Rat { return new(big.Rat).Mul(x, y) }

func quotient(x, y *big.Rat) *big.Rat { return new(big.Rat).Quo(x, y) }

func middle(x, y *big.Rat) *big.Rat { return quotient(sum(x, y), big.NewRat(2, 1)) }

func dot(a, b triple) *big.Rat {
	return sum(sum(product(a[0], b[0]), product(a[1], b[1])), product(a[2], b[2]))
}

// circle returns the cosine and the sine by the half tangent.
func circle(t *big.Rat) (cosine, sine *big.Rat) {
	one, square := big.NewRat(1, 1), product(t, t)
	whole := sum(one, square)
	return quotient(difference(one, square), whole), quotient(sum(t, t), whole)
}

// aheadAndUp are the unit vectors by which levers and levels are measured.
func aheadAndUp(a api.Attitude) (ahead, up triple) {
	cosHeel, sinHeel := circle(rat(a.Heel))
	cosTrim, sinTrim := circle(rat(a.Trim))
	ahead = triple{cosTrim, new(big.Rat).Neg(product(sinHeel, sinTrim)), product(cosHeel, sinTrim)}
	up = triple{new(big.Rat).Neg(sinTrim), new(big.Rat).Neg(product(sinHeel, cosTrim)), product(cosHeel, cosTrim)}
	return ahead, up
}

// extentAlong returns the least and the greatest coordinates along an axis.
func extentAlong(s api.Solid, axis triple) (least, most *big.Rat) {
	for _, triangle := range s {
		for _, r := range triangle {
			x := dot(axis, values(r))
			if least == nil || x.Cmp(least) < 0 {
				least = x
			}
			if most == nil || x.Cmp(most) > 0 {
				most = x
			}
		}
	}
	return least, most
}

func volumeAt(t *testing.T, s api.Solid, a api.Attitude, d *big.Rat) *big.Rat {
	t.Helper()
	return rat(need[api.Rat](t)(float.Volume(s, a, text(d))))
}

// wholeOf returns the volume of a solid.
func wholeOf(t *testing.T, s api.Solid) *big.Rat {
	t.Helper()
	_, up := aheadAndUp(at("0 0"))
	_, top := extentAlong(s, up)
	return volumeAt(t, s, at("0 0"), top)
}

// knownLevel halves as chapter 20 says.
func knownLevel(t *testing.T, s api.Solid, a api.Attitude, volume *big.Rat, k int) api.Interval {
	t.Helper()
	_, up := aheadAndUp(a)
	low, high := extentAlong(s, up)
	for range k {
		half := middle(low, high)
		if volumeAt(t, s, a, half).Cmp(volume) <= 0 {
			low = half
		} else {
			high = half
		}
	}
	return api.Interval{Lo: text(low), Hi: text(high)}
}

// isLevelRight asks as chapter 20 does.
func isLevelRight(t *testing.T, s api.Solid, a api.Attitude, volume *big.Rat, level api.Interval) bool {
	t.Helper()
	low, high := rat(level.Lo), rat(level.Hi)
	return low.Cmp(high) <= 0 && volumeAt(t, s, a, low).Cmp(volume) <= 0 && volumeAt(t, s, a, high).Cmp(volume) >= 0
}

// knownLever is the lever by a level that is right, for a volume that is greater than 0.
func knownLever(t *testing.T, s api.Solid, a api.Attitude, volume *big.Rat, g api.Vector, level api.Interval) api.Interval {
	t.Helper()
	ahead, _ := aheadAndUp(a)
	least, most := extentAlong(s, ahead)
	known := dot(ahead, values(need[api.Vector](t)(float.Moments(s, a, level.Lo))))
	missing := difference(volume, volumeAt(t, s, a, rat(level.Lo)))
	lever := func(place *big.Rat) api.Rat {
		centre := quotient(sum(known, product(missing, place)), volume)
		return text(difference(centre, dot(ahead, values(g))))
	}
	return api.Interval{Lo: lever(least), Hi: lever(most)}
}

func knownSign(i api.Interval) int {
	if rat(i.Lo).Sign() > 0 {
		return 1
	}
	if rat(i.Hi).Sign() < 0 {
		return -1
	}
	return 0
}

// knownBalance halves as the chapter says.
func knownBalance(t *testing.T, s api.Solid, heel api.Rat, volume *big.Rat, g api.Vector, trims [2]api.Rat, k, n int) (api.Balance, api.Errno) {
	t.Helper()
	ask := func(trim api.Rat) (level, lever api.Interval, sign int) {
		a := api.Attitude{Heel: heel, Trim: trim}
		level = knownLevel(t, s, a, volume, k)
		lever = knownLever(t, s, a, volume, g, level)
		return level, lever, knownSign(lever)
	}
	b := api.Balance{Heel: heel, Lo: trims[0], Hi: trims[1]}
	var low, high int
	b.LoLevel, b.LoLever, low = ask(b.Lo)
	b.HiLevel, b.HiLever, high = ask(b.Hi)
	if low*high == 0 {
		return api.Balance{}, api.ErrUndecided
	}
	if low == high {
		return api.Balance{}, api.ErrMismatch
	}
	for range n {
		half := text(middle(rat(b.Lo), rat(b.Hi)))
		level, lever, sign := ask(half)
		switch sign {
		case low:
			b.Lo, b.LoLevel, b.LoLever = half, level, lever
		case high:
			b.Hi, b.HiLevel, b.HiLever = half, level, lever
		}
	}
	return b, api.OK
}

// isRight asks as the chapter does, of a balance with attitudes in range and a volume that is greater than 0.
func isRight(t *testing.T, s api.Solid, volume *big.Rat, g api.Vector, b api.Balance) bool {
	t.Helper()
	low, high := api.Attitude{Heel: b.Heel, Trim: b.Lo}, api.Attitude{Heel: b.Heel, Trim: b.Hi}
	if rat(b.Lo).Cmp(rat(b.Hi)) >= 0 || !isLevelRight(t, s, low, volume, b.LoLevel) || !isLevelRight(t, s, high, volume, b.HiLevel) {
		return false
	}
	return b.LoLever == knownLever(t, s, low, volume, g, b.LoLevel) &&
		b.HiLever == knownLever(t, s, high, volume, g, b.HiLevel) &&
		knownSign(b.LoLever)*knownSign(b.HiLever) == -1
}

// isWithin reports whether an interval is within another one.
func isWithin(a, b api.Interval) bool {
	return rat(b.Lo).Cmp(rat(a.Lo)) <= 0 && rat(a.Hi).Cmp(rat(b.Hi)) <= 0
}
