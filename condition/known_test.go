package condition

import (
	"math/big"
	"slices"
	"strconv"
	"strings"
	"testing"

	"garboard/api"
	"garboard/attitude"
	"garboard/liquid"
	"garboard/mesh"
	"garboard/tank"
)

// point reads three numbers.
func point(s string) api.Vector {
	words := strings.Fields(s)
	return api.Vector{X: api.Rat(words[0]), Y: api.Rat(words[1]), Z: api.Rat(words[2])}
}

// points reads points that are separated by commas.
func points(s string) []api.Vector {
	var out []api.Vector
	for part := range strings.SplitSeq(s, ",") {
		out = append(out, point(part))
	}
	return out
}

// at reads the heel and the trim.
func at(s string) api.Attitude {
	words := strings.Fields(s)
	return api.Attitude{Heel: api.Rat(words[0]), Trim: api.Rat(words[1])}
}

// exactly returns the enclosure of one point.
func exactly(r api.Vector) api.Spot {
	return api.Spot{Ahead: api.Interval{Lo: r.X, Hi: r.X}, Side: api.Interval{Lo: r.Y, Hi: r.Y}, Up: api.Interval{Lo: r.Z, Hi: r.Z}}
}

// loaded reads weights (the name, the mass, the centre, and both ends), and behind a semicolon fillings (the tank, the volume, and perhaps that it is frozen). Both are separated by commas.
func loaded(s string) api.Condition {
	weights, fillings, _ := strings.Cut(s, ";")
	var out api.Condition
	for part := range strings.SplitSeq(weights, ",") {
		if words := strings.Fields(part); len(words) > 0 {
			out.Weights = append(out.Weights, api.Weight{Name: words[0], Mass: api.Rat(words[1]), Centre: point(strings.Join(words[2:5], " ")), From: api.Rat(words[5]), To: api.Rat(words[6])})
		}
	}
	for part := range strings.SplitSeq(fillings, ",") {
		if words := strings.Fields(part); len(words) > 0 {
			out.Fillings = append(out.Fillings, api.Filling{Tank: words[0], Volume: api.Rat(words[1]), Frozen: len(words) > 2})
		}
	}
	return out
}

// need returns a result that has to come without an error.
func need[T any](t *testing.T) func(result T, e api.Errno) T {
	t.Helper()
	return func(result T, e api.Errno) T {
		t.Helper()
		if e != api.OK {
			t.Fatalf("the error %d", e)
		}
		return result
	}
}

func box(t *testing.T, low, high string) api.Solid {
	t.Helper()
	return need[api.Solid](t)(mesh.Box(point(low), point(high)))
}

func prism(t *testing.T, polygon, along string) api.Solid {
	t.Helper()
	return need[api.Solid](t)(mesh.Prism(points(polygon), point(along)))
}

func reversed(t *testing.T, s api.Solid) api.Solid {
	t.Helper()
	return need[api.Solid](t)(mesh.Reverse(s))
}

// tetrahedron is a whole body if its points are in this order: o, and the ends of three axes.
func tetrahedron(l []api.Vector) api.Solid {
	return api.Solid{{l[0], l[2], l[1]}, {l[0], l[1], l[3]}, {l[1], l[2], l[3]}, {l[2], l[0], l[3]}}
}

// example is the craft of the chapter.
func example(t *testing.T) api.Craft {
	t.Helper()
	return api.Craft{Hull: box(t, "0 -2 0", "10 2 3"), Density: "1", Tanks: []api.Tank{
		{Name: "A", Space: box(t, "0 -1 0", "2 1 1"), Permeability: "1", Density: "1"},
	}}
}

func exampleCondition() api.Condition { return loaded("hull 30 5 0 1 0 10; A 4") }

// tanker has a hull whose sides lean outward, and convex tanks with liquids of many densities.
func tanker(t *testing.T) api.Craft {
	t.Helper()
	return api.Craft{Hull: prism(t, "0 -5/2 0, 0 5/2 0, 0 4 5, 0 -4 5", "20 1/7 0"), Density: "41/40", Tanks: []api.Tank{
		{Name: "No.1-P", Space: box(t, "2 -3 1", "7 0 9/2"), Permeability: "19/20", Density: "9/10"},
		{Name: "No.1-S", Space: box(t, "2 0 1", "7 3 9/2"), Permeability: "19/20", Density: "9/10"},
		{Name: "aft", Space: tetrahedron(points("17 -1/7 0, 20 1 1/2, 18 3 -1/9, 18 2 12345/3001")), Permeability: "1/3", Density: "3/2"},
		{Name: "hull", Space: prism(t, "9 0 1, 12 0 1, 13 1 1, 11 3/2 1, 8 1 1", "1 1/2 2"), Permeability: "1/1000000007", Density: "1000"},
	}}
}

// barge has tanks with a dent, in two parts, twice the same, and with a part that counts negatively.
func barge(t *testing.T) api.Craft {
	t.Helper()
	deep := box(t, "8 -1 0", "10 1 2")
	return api.Craft{Hull: box(t, "-1 -2 -1/3", "12 9/4 17/5"), Density: "9/10", Tanks: []api.Tank{
		{Name: "dent", Space: prism(t, "0 0 0, 3 0 0, 1 1 0, 0 3 0", "1/3 0 2"), Permeability: "3/7", Density: "2"},
		{Name: "two", Space: slices.Concat(box(t, "4 -1 0", "7 1 1"), box(t, "4 -1 2", "7 1 3")), Permeability: "9/10", Density: "1"},
		{Name: "twice", Space: slices.Concat(deep, deep), Permeability: "1/2", Density: "11/10"},
		{Name: "less", Space: slices.Concat(deep, reversed(t, box(t, "8 -1 3", "9 0 4"))), Permeability: "1", Density: "1/3"},
	}}
}

// trial is a condition of a craft.
type trial struct {
	s api.Craft
	c api.Condition
}

// convexTrials are such of crafts with convex tanks.
func convexTrials(t *testing.T) []trial {
	t.Helper()
	return []trial{
		{example(t), exampleCondition()},
		{example(t), loaded("; A 1/3")},
		{example(t), loaded("")},
		{example(t), loaded("none 0 5 7 1 4 6, less 0 1 1 1 0 2")},
		{example(t), loaded("none 0 5 7 1 4 6; A 0")},
		{example(t), loaded("none 0 5 7 1 4 6; A 2 frozen")},
		{tanker(t), loaded("hull 100 10 0 7/3 0 20, crane 10 8 -1/7 4 15/2 17/2; No.1-P 20, aft 1/2, No.1-S 7")},
		{tanker(t), loaded("cargo 100/3 41/4 1 12 10 21/2, hull 1/1000003 -5 -1 1 -6 -4; hull 1/10000000000, No.1-P 0, No.1-S 20 frozen")},
		{tanker(t), loaded("hull 100 10 0 7/3 0 20; No.1-P 399/8, No.1-S 399/8 frozen, aft 0 frozen")},
	}
}

// trials are others, too.
func trials(t *testing.T) []trial {
	t.Helper()
	return append(convexTrials(t),
		trial{barge(t), loaded("hull 7 5 0 -1 0 10; dent 1, two 5, twice 1, less 3")},
		trial{barge(t), loaded("a 7 5 0 -1 0 10, b 1/7 5 -3 8 1/2 19/2; less 1 frozen, two 1/9 frozen, twice 8, dent 1/11 frozen")},
	)
}

// attitudes are those at the ends of the range, upright ones, and some between.
func attitudes() []api.Attitude {
	return []api.Attitude{at("0 0"), at("1/2 0"), at("0 1/2"), at("1 0"), at("-1 -1/2"), at("1/3 -1/3"), at("-2/7 1/8388608"), at("12345/54322 -101/997")}
}

// each calls a function for conditions at attitudes of many kinds; of the attitudes each condition has some, and the next one has others.
func each(t *testing.T, l []trial, see func(x trial, a api.Attitude)) {
	t.Helper()
	for i, x := range l {
		for k, a := range attitudes() {
			if (i+k)%3 == 0 {
				see(x, a)
			}
		}
	}
}

// many returns a list with some weights.
func many(count int) []api.Weight {
	var out []api.Weight
	for i := range count {
		w := exampleCondition().Weights[0]
		w.Name = "w" + strconv.Itoa(i)
		w.Mass = api.Rat("1/" + strconv.Itoa(100+i))
		out = append(out, w)
	}
	return out
}

// withMostTanks is the example with as many tanks as there may be.
func withMostTanks(t *testing.T) api.Craft {
	t.Helper()
	s := example(t)
	first := s.Tanks[0]
	s.Tanks = nil
	for i := range api.MaxTanks {
		first.Name = "T" + strconv.Itoa(i)
		s.Tanks = append(s.Tanks, first)
	}
	return s
}

// tankWith returns the tank with a name, which is there.
func tankWith(s api.Craft, name string) api.Tank {
	return s.Tanks[slices.IndexFunc(s.Tanks, func(x api.Tank) bool { return x.Name == name })]
}

func capacityOf(t *testing.T, s api.Craft, name string) api.Rat {
	t.Helper()
	return need[api.Rat](t)(tank.Capacity(tankWith(s, name)))
}

// triple are coordinates as the tests compute with them.
type triple [3]*big.Rat

func rat(x api.Rat) *big.Rat {
	n, ok := new(big.Rat).SetString(string(x))
	if !ok {
		panic("no number: " + string(x))
	}
	return n
}

func text(x *big.Rat) api.Rat { return api.Rat(x.RatString()) }

func product(x, y *big.Rat) *big.Rat { return new(big.Rat).Mul(x, y) }

func quotient(x, y *big.Rat) *big.Rat { return new(big.Rat).Quo(x, y) }

func difference(x, y *big.Rat) *big.Rat { return new(big.Rat).Sub(x, y) }

func sumOfThree(x, y, z api.Rat) *big.Rat {
	return new(big.Rat).Add(rat(x), new(big.Rat).Add(rat(y), rat(z)))
}

// alongAxes returns the scalar products with the unit vectors of an attitude.
func alongAxes(t *testing.T, a api.Attitude, r api.Vector) triple {
	t.Helper()
	f := need[api.Frame](t)(attitude.Of(a))
	var out triple
	for i, n := range []api.Vector{f.Ahead, f.Side, f.Up} {
		out[i] = new(big.Rat)
		for _, pair := range [][2]api.Rat{{n.X, r.X}, {n.Y, r.Y}, {n.Z, r.Z}} {
			out[i].Add(out[i], product(rat(pair[0]), rat(pair[1])))
		}
	}
	return out
}

// knownMass adds as the chapter says.
func knownMass(x trial) *big.Rat {
	out := new(big.Rat)
	for _, w := range x.c.Weights {
		out.Add(out, rat(w.Mass))
	}
	for _, f := range x.c.Fillings {
		out.Add(out, product(rat(f.Volume), rat(tankWith(x.s, f.Tank).Density)))
	}
	return out
}

// knownCentre adds the moments of each weight and of each liquid, and divides them by a mass that is not 0.
func knownCentre(t *testing.T, x trial, a api.Attitude, k int) api.Spot {
	t.Helper()
	var least, most triple
	for i := range least {
		least[i], most[i] = new(big.Rat), new(big.Rat)
	}
	for _, w := range x.c.Weights {
		for i, r := range alongAxes(t, a, w.Centre) {
			moment := product(r, rat(w.Mass))
			least[i].Add(least[i], moment)
			most[i].Add(most[i], moment)
		}
	}
	for _, f := range x.c.Fillings {
		if rat(f.Volume).Sign() == 0 {
			continue
		}
		centreOf := map[bool]func(api.Tank, api.Attitude, api.Rat, int) (api.Spot, api.Errno){false: liquid.Centre, true: liquid.Frozen}[f.Frozen]
		centre := need[api.Spot](t)(centreOf(tankWith(x.s, f.Tank), a, f.Volume, k))
		mass := product(rat(f.Volume), rat(tankWith(x.s, f.Tank).Density))
		for i, r := range []api.Interval{centre.Ahead, centre.Side, centre.Up} {
			least[i].Add(least[i], product(rat(r.Lo), mass))
			most[i].Add(most[i], product(rat(r.Hi), mass))
		}
	}
	var out [3]api.Interval
	for i := range out {
		out[i] = api.Interval{Lo: text(quotient(least[i], knownMass(x))), Hi: text(quotient(most[i], knownMass(x)))}
	}
	return api.Spot{Ahead: out[0], Side: out[1], Up: out[2]}
}

// isExact reports whether an enclosure has one point alone.
func isExact(x api.Spot) bool {
	return x.Ahead.Lo == x.Ahead.Hi && x.Side.Lo == x.Side.Hi && x.Up.Lo == x.Up.Hi
}

// areEqual compares conditions, in which nil lists and empty ones are the same.
func areEqual(x, y api.Condition) bool {
	return slices.Equal(x.Weights, y.Weights) && slices.Equal(x.Fillings, y.Fillings)
}
