package lever

import (
	"math/big"
	"slices"
	"strings"
	"testing"

	"garboard/api"
	"garboard/attitude"
	"garboard/condition"
	"garboard/draft"
	"garboard/float"
	"garboard/mesh"
)

// point reads three numbers.
func point(s string) api.Vector {
	words := strings.Fields(s)
	return api.Vector{X: api.Rat(words[0]), Y: api.Rat(words[1]), Z: api.Rat(words[2])}
}

// points reads points that are separated by commas.
func points(s string) []api.Vector {
	var out []api.Vector
	for part := range strings.SplitSeq(s, ",") {
		out = append(out, point(part))
	}
	return out
}

// at reads the heel and the trim.
func at(s string) api.Attitude {
	words := strings.Fields(s)
	return api.Attitude{Heel: api.Rat(words[0]), Trim: api.Rat(words[1])}
}

// ends reads both ends of an interval.
func ends(s string) api.Interval {
	words := strings.Fields(s)
	return api.Interval{Lo: api.Rat(words[0]), Hi: api.Rat(words[1])}
}

func pair(s string) [2]api.Rat { return [2]api.Rat{ends(s).Lo, ends(s).Hi} }

// rats reads numbers.
func rats(s string) []api.Rat {
	var out []api.Rat
	for word := range strings.FieldsSeq(s) {
		out = append(out, api.Rat(word))
	}
	return out
}

// levers reads a heel and four intervals.
func levers(s string) api.Lever {
	l := rats(s)
	return api.Lever{Heel: l[0], Level: api.Interval{Lo: l[1], Hi: l[2]}, Righting: api.Interval{Lo: l[3], Hi: l[4]}, Trimming: api.Interval{Lo: l[5], Hi: l[6]}, Height: api.Interval{Lo: l[7], Hi: l[8]}}
}

// places are the places of all numbers of levers but the heel.
func places(l *api.Lever) []*api.Rat {
	return []*api.Rat{&l.Level.Lo, &l.Level.Hi, &l.Righting.Lo, &l.Righting.Hi, &l.Trimming.Lo, &l.Trimming.Hi, &l.Height.Lo, &l.Height.Hi}
}

// loaded reads weights (the name, the mass, the centre, and both ends), and behind a semicolon fillings (the tank, the volume, and perhaps that it is frozen). Both are separated by commas.
func loaded(s string) api.Condition {
	weights, fillings, _ := strings.Cut(s, ";")
	var out api.Condition
	for part := range strings.SplitSeq(weights, ",") {
		if words := strings.Fields(part); len(words) > 0 {
			out.Weights = append(out.Weights, api.Weight{Name: words[0], Mass: api.Rat(words[1]), Centre: point(strings.Join(words[2:5], " ")), From: api.Rat(words[5]), To: api.Rat(words[6])})
		}
	}
	for part := range strings.SplitSeq(fillings, ",") {
		if words := strings.Fields(part); len(words) > 0 {
			out.Fillings = append(out.Fillings, api.Filling{Tank: words[0], Volume: api.Rat(words[1]), Frozen: len(words) > 2})
		}
	}
	return out
}

// need returns a result that has to come without an error.
func need[T any](t *testing.T) func(result T, e api.Errno) T {
	t.Helper()
	return func(result T, e api.Errno) T {
		t.Helper()
		if e != api.OK {
			t.Fatalf("the error %d", e)
		}
		return result
	}
}

func box(t *testing.T, low, high string) api.Solid {
	t.Helper()
	return need[api.Solid](t)(mesh.Box(point(low), point(high)))
}

func prism(t *testing.T, polygon, along string) api.Solid {
	t.Helper()
	return need[api.Solid](t)(mesh.Prism(points(polygon), point(along)))
}

// tetrahedron is a whole body if its points are in this order: o, and the ends of three axes.
func tetrahedron(l []api.Vector) api.Solid {
	return api.Solid{{l[0], l[2], l[1]}, {l[0], l[1], l[3]}, {l[1], l[2], l[3]}, {l[2], l[0], l[3]}}
}

// example is the craft of layer 25.
func example(t *testing.T) api.Craft {
	t.Helper()
	return api.Craft{Hull: box(t, "0 -2 0", "10 2 3"), Density: "1", Tanks: []api.Tank{
		{Name: "A", Space: box(t, "0 -1 0", "2 1 1"), Permeability: "1", Density: "1"},
	}}
}

func exampleCondition() api.Condition { return loaded("hull 30 5 0 1 0 10") }

// tanker has a hull whose sides lean outward, and convex tanks.
func tanker(t *testing.T) api.Craft {
	t.Helper()
	return api.Craft{Hull: prism(t, "0 -5/2 0, 0 5/2 0, 0 4 5, 0 -4 5", "20 1/7 0"), Density: "41/40", Tanks: []api.Tank{
		{Name: "P", Space: box(t, "2 -3 1", "7 0 9/2"), Permeability: "19/20", Density: "9/10"},
		{Name: "S", Space: box(t, "2 0 1", "7 3 9/2"), Permeability: "19/20", Density: "9/10"},
		{Name: "aft", Space: tetrahedron(points("17 -1/7 0, 20 1 1/2, 18 3 -1/9, 18 2 12345/3001")), Permeability: "1/3", Density: "3/2"},
	}}
}

// boat has a hull with four points.
func boat() api.Craft {
	return api.Craft{Hull: tetrahedron(points("-4 -1/7 0, 20/3 1 1/2, 1 5 -1/9, 2 2 12345/1001")), Density: "1"}
}

// barge has a hull in two parts, and a tank with a dent.
func barge(t *testing.T) api.Craft {
	t.Helper()
	return api.Craft{Hull: slices.Concat(box(t, "0 -3 0", "10 -1 2"), box(t, "0 1 0", "11 3 2")), Density: "9/10", Tanks: []api.Tank{
		{Name: "dent", Space: prism(t, "0 0 0, 3 0 0, 1 1 0, 0 3 0", "1/3 0 2"), Permeability: "3/7", Density: "2"},
	}}
}

// trial is a condition of a craft.
type trial struct {
	s api.Craft
	c api.Condition
}

// convexTrials are such of crafts with convex hulls and tanks.
func convexTrials(t *testing.T) []trial {
	t.Helper()
	return []trial{
		{example(t), exampleCondition()},
		{example(t), loaded("hull 30 5 0 1 0 10; A 4")},
		{example(t), loaded("hull 58 5 1/9 1 0 10; A 2")},
		{example(t), loaded("hull 116 5 0 5 0 10; A 4")}, // all of the hull is in the water
		{example(t), loaded("; A 1/1000003 frozen")},
		{tanker(t), loaded("hull 200 10 0 7/3 0 20, crane 10 8 -1/7 4 15/2 17/2; P 20, aft 1/2, S 7")},
		{tanker(t), loaded("cargo 301/3 41/4 1 12 10 21/2; P 0, S 20 frozen")},
		{boat(), loaded("all 20 1 1 1 0 2")},
	}
}

func trials(t *testing.T) []trial {
	t.Helper()
	return append(convexTrials(t),
		trial{barge(t), loaded("hull 20 5 1/3 1 0 10; dent 1")},
		trial{barge(t), loaded("hull 40 11/2 0 9 5 6; dent 1/7 frozen")},
	)
}

// attitudes are those at the ends of the range, upright ones, and some between.
func attitudes() []api.Attitude {
	return []api.Attitude{at("0 0"), at("1/2 0"), at("0 1/2"), at("1 0"), at("-1 -1/2"), at("1/3 -1/3"), at("-2/7 1/8388608"), at("12345/54322 -101/997")}
}

// eachTrial calls a function for conditions at attitudes of many kinds; of the attitudes each condition has some, and the next one has others.
func eachTrial(t *testing.T, l []trial, see func(x trial, a api.Attitude)) {
	t.Helper()
	for i, x := range l {
		for k, a := range attitudes() {
			if (i+k)%3 == 0 {
				see(x, a)
			}
		}
	}
}

func rat(x api.Rat) *big.Rat {
	n, ok := new(big.Rat).SetString(string(x))
	if !ok {
		panic("no number: " + string(x))
	}
	return n
}

func text(x *big.Rat) api.Rat { return api.Rat(x.RatString()) }

func product(x, y *big.Rat) *big.Rat { return new(big.Rat).Mul(x, y) }

func quotient(x, y *big.Rat) *big.Rat { return new(big.Rat).Quo(x, y) }

func sum(x, y *big.Rat) *big.Rat { return new(big.Rat).Add(x, y) }

func difference(x, y *big.Rat) *big.Rat { return new(big.Rat).Sub(x, y) }

func opposite(x api.Rat) api.Rat { return text(new(big.Rat).Neg(rat(x))) }

// knownDifference goes from Lo - Hi to Hi - Lo.
func knownDifference(x, y api.Interval) api.Interval {
	return api.Interval{Lo: text(difference(rat(x.Lo), rat(y.Hi))), Hi: text(difference(rat(x.Hi), rat(y.Lo)))}
}

// knownLevers are those by a level that is right, as the chapter says.
func knownLevers(t *testing.T, x trial, a api.Attitude, k int, level api.Interval) api.Lever {
	t.Helper()
	volume := need[api.Rat](t)(condition.Displaced(x.s, x.c))
	b := need[api.Spot](t)(draft.Centre(x.s.Hull, a, volume, level))
	g := need[api.Spot](t)(condition.Centre(x.s, x.c, a, k))
	return api.Lever{Heel: a.Heel, Level: level, Righting: knownDifference(b.Side, g.Side), Trimming: knownDifference(b.Ahead, g.Ahead), Height: knownDifference(g.Up, b.Up)}
}

// knownLevel is the bracket of the displaced volume.
func knownLevel(t *testing.T, x trial, a api.Attitude, k int) api.Interval {
	t.Helper()
	volume := need[api.Rat](t)(condition.Displaced(x.s, x.c))
	return need[api.Interval](t)(draft.Level(x.s.Hull, a, volume, k))
}

// isRight asks as the chapter does, of levers with valid numbers at an attitude in range.
func isRight(t *testing.T, x trial, trim api.Rat, k int, l api.Lever) bool {
	t.Helper()
	a := api.Attitude{Heel: l.Heel, Trim: trim}
	volume := rat(need[api.Rat](t)(condition.Displaced(x.s, x.c)))
	low, high := need[api.Rat](t)(float.Volume(x.s.Hull, a, l.Level.Lo)), need[api.Rat](t)(float.Volume(x.s.Hull, a, l.Level.Hi))
	if rat(l.Level.Lo).Cmp(rat(l.Level.Hi)) > 0 || rat(low).Cmp(volume) > 0 || rat(high).Cmp(volume) < 0 {
		return false
	}
	return l == knownLevers(t, x, a, k, l.Level)
}

// cosineOf returns that of an angle by its half tangent.
func cosineOf(half api.Rat) *big.Rat {
	one, square := big.NewRat(1, 1), product(rat(half), rat(half))
	return quotient(difference(one, square), sum(one, square))
}

// knownArea is the difference of the heights, divided by the cosine of the trim.
func knownArea(l, m api.Lever, trim api.Rat) api.Interval {
	d := knownDifference(m.Height, l.Height)
	return api.Interval{Lo: text(quotient(rat(d.Lo), cosineOf(trim))), Hi: text(quotient(rat(d.Hi), cosineOf(trim)))}
}

func knownSign(i api.Interval) int {
	if rat(i.Lo).Sign() > 0 {
		return 1
	}
	if rat(i.Hi).Sign() < 0 {
		return -1
	}
	return 0
}

// knownBalance halves as the chapter says.
func knownBalance(t *testing.T, x trial, heel api.Rat, trims [2]api.Rat, k, n int) (api.Interval, api.Errno) {
	t.Helper()
	sign := func(trim api.Rat) int {
		a := api.Attitude{Heel: heel, Trim: trim}
		return knownSign(knownLevers(t, x, a, k, knownLevel(t, x, a, k)).Trimming)
	}
	low, high := sign(trims[0]), sign(trims[1])
	if low*high == 0 {
		return api.Interval{}, api.ErrUndecided
	}
	if low == high {
		return api.Interval{}, api.ErrMismatch
	}
	for range n {
		middle := text(quotient(sum(rat(trims[0]), rat(trims[1])), big.NewRat(2, 1)))
		switch sign(middle) {
		case low:
			trims[0] = middle
		case high:
			trims[1] = middle
		}
	}
	return api.Interval{Lo: trims[0], Hi: trims[1]}, api.OK
}

// isWithin reports whether an interval is within another one.
func isWithin(a, b api.Interval) bool {
	return rat(b.Lo).Cmp(rat(a.Lo)) <= 0 && rat(a.Hi).Cmp(rat(b.Hi)) <= 0
}

// mirrored returns a trial on the other side of the plane y = 0.
func mirrored(t *testing.T, x trial) trial {
	t.Helper()
	out := trial{s: x.s, c: api.Condition{Weights: slices.Clone(x.c.Weights), Fillings: x.c.Fillings}}
	out.s.Hull = need[api.Solid](t)(mesh.Mirror(x.s.Hull))
	out.s.Tanks = slices.Clone(x.s.Tanks)
	for i, vessel := range x.s.Tanks {
		out.s.Tanks[i].Space = need[api.Solid](t)(mesh.Mirror(vessel.Space))
	}
	for i, w := range x.c.Weights {
		out.c.Weights[i].Centre.Y = opposite(w.Centre.Y)
	}
	return out
}

// alongSide is what a metre to starboard is to the side in the water.
func alongSide(t *testing.T, a api.Attitude) *big.Rat {
	t.Helper()
	return rat(need[api.Frame](t)(attitude.Of(a)).Side.Y)
}
