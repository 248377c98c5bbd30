package condition

import (
	"slices"
	"strconv"
	"testing"

	"garboard/api"
	"garboard/attitude"
	"garboard/ledger"
)

// The chapter's example.
func TestExample(t *testing.T) {
	s, c := example(t), exampleCondition()
	if got := need[api.Rat](t)(Mass(s, c)); got != "34" {
		t.Errorf("the mass %s", got)
	}
	if got := need[api.Rat](t)(Displaced(s, c)); got != "34" {
		t.Errorf("the displaced volume %s", got)
	}
	want := api.Spot{Ahead: api.Interval{Lo: "77/17", Hi: "77/17"}, Side: api.Interval{Lo: "0", Hi: "0"}, Up: api.Interval{Lo: "16/17", Hi: "16/17"}}
	for k := range 4 {
		if got := need[api.Spot](t)(Centre(s, c, at("0 0"), k)); got != want {
			t.Errorf("the centre %v", got)
		}
	}
}

// P25.1
func TestWholeAndCheck(t *testing.T) {
	for i, x := range trials(t) {
		if e, f := Whole(x.s), Check(x.s, x.c); e != api.OK || f != api.OK {
			t.Errorf("trial %d: the errors %d and %d", i, e, f)
		}
	}
	bare := example(t)
	bare.Tanks = nil
	if e, f := Whole(bare), Check(bare, api.Condition{}); e != api.OK || f != api.OK {
		t.Errorf("without tanks: the errors %d and %d", e, f)
	}
	s := withMostTanks(t)
	c := api.Condition{Weights: many(api.MaxWeights)}
	for _, x := range s.Tanks {
		c.Fillings = append(c.Fillings, api.Filling{Tank: x.Name, Volume: "1"})
	}
	if e, f := Whole(s), Check(s, c); e != api.OK || f != api.OK {
		t.Errorf("with as much as there may be: the errors %d and %d", e, f)
	}
}

// P25.1
func TestMass(t *testing.T) {
	for i, x := range trials(t) {
		if got, want := need[api.Rat](t)(Mass(x.s, x.c)), text(knownMass(x)); got != want {
			t.Errorf("trial %d: %s instead of %s", i, got, want)
		}
	}
	s := withMostTanks(t)
	c := api.Condition{Weights: many(api.MaxWeights)}
	for i, x := range s.Tanks {
		s.Tanks[i].Density = api.Rat(strconv.Itoa(i+1) + "/17")
		c.Fillings = append(c.Fillings, api.Filling{Tank: x.Name, Volume: "11/3", Frozen: i%2 == 0})
	}
	if got, want := need[api.Rat](t)(Mass(s, c)), text(knownMass(trial{s, c})); got != want {
		t.Errorf("with as much as there may be: %s instead of %s", got, want)
	}
}

// P25.1: the mass divided by the density of the water, which changes nothing else.
func TestDisplaced(t *testing.T) {
	for i, x := range trials(t) {
		if knownMass(x).Sign() == 0 {
			continue
		}
		for _, density := range []api.Rat{x.s.Density, "41/40", "7/10", "20", "1000000007/3"} {
			x.s.Density = density
			want := text(quotient(knownMass(x), rat(density)))
			if got := need[api.Rat](t)(Displaced(x.s, x.c)); got != want {
				t.Errorf("trial %d in water of %s: %s instead of %s", i, density, got, want)
			}
		}
	}
}

// P25.1, section Errors: from just above 0 to the volume of the hull.
func TestDisplacedAtItsEnds(t *testing.T) {
	s := example(t)
	for load, want := range map[string]api.Rat{
		"a 1/1000000000000 1 0 0 0 2":                      "1/1000000000000",
		"a 120 1 0 0 0 2":                                  "120",
		"a 116 1 0 0 0 2; A 4":                             "120",
		"a 119999999999/1000000000 1 0 0 0 2":              "119999999999/1000000000",
		"; A 1/7":                                          "1/7",
		"a 0 1 0 0 0 2; A 4":                               "4",
		"a 120000000001/1000000000 1 0 0 0 2":              "",
		"a 116000000001/1000000000 1 0 0 0 2; A 4":         "",
		"a 120 1 0 0 0 2; A 1/1000000000000":               "",
		"a 120 1 0 0 0 2; A 0":                             "120",
		"a 100000000000000000000000000000000000 1 0 0 0 2": "",
		"":                     "",
		"a 0 1 0 0 0 2":        "",
		"; A 0":                "",
		"a 0 1 0 0 0 2; A 0 x": "",
	} {
		e := api.OK
		if want == "" {
			e = api.ErrRange
		}
		if got, f := Displaced(s, loaded(load)); got != want || f != e {
			t.Errorf("%s: %s instead of %s, the error %d", load, got, want, f)
		}
		for _, density := range []api.Rat{"41/40", "1/3"} {
			denser := s
			denser.Density = density
			limit := text(product(rat("120"), rat(density)))
			full := loaded("a " + string(limit) + " 1 0 0 0 2")
			if got, f := Displaced(denser, full); got != "120" || f != api.OK {
				t.Errorf("%s in water of %s: %s, the error %d", limit, density, got, f)
			}
			full.Fillings = loaded("; A 1/1000000000000").Fillings
			if got, f := Displaced(denser, full); got != "" || f != api.ErrRange {
				t.Errorf("more than %s in water of %s: %s, the error %d", limit, density, got, f)
			}
		}
	}
}

// P25.2
func TestCentre(t *testing.T) {
	each(t, trials(t), func(x trial, a api.Attitude) {
		for _, k := range []int{0, 1, 4} {
			if knownMass(x).Sign() == 0 {
				if got, e := Centre(x.s, x.c, a, k); got != (api.Spot{}) || e != api.ErrZero {
					t.Errorf("%v: %v, the error %d", x, got, e)
				}
				continue
			}
			want := knownCentre(t, x, a, k)
			if got := need[api.Spot](t)(Centre(x.s, x.c, a, k)); got != want {
				t.Errorf("%v at %v, %d halvings: %v instead of %v", x, a, k, got, want)
			}
		}
	})
}

// P25.2: with the most halvings.
func TestMostHalvings(t *testing.T) {
	for _, i := range []int{1, 6} {
		x, a := convexTrials(t)[i], attitudes()[i]
		want := knownCentre(t, x, a, api.MaxHalvings)
		if got := need[api.Spot](t)(Centre(x.s, x.c, a, api.MaxHalvings)); got != want {
			t.Errorf("%v at %v: %v instead of %v", x, a, got, want)
		}
	}
}

// P25.2: half of the example's tank, in closed form. The free liquid is where its level is, the frozen one where it was.
func TestHalfTank(t *testing.T) {
	for _, c := range []struct {
		load, at string
		want     api.Spot
	}{
		{"hull 2 5 0 1 0 10; A 2", "0 0", exactly(point("3 0 5/8"))},
		{"hull 2 5 0 1 0 10; A 2 frozen", "0 0", exactly(point("3 0 5/8"))},
		{"hull 2 5 0 1 0 10; A 2", "1 0", exactly(point("3 3/4 -1/4"))},
		{"hull 2 5 0 1 0 10; A 2 frozen", "1 0", exactly(point("3 5/8 0"))},
	} {
		if got := need[api.Spot](t)(Centre(example(t), loaded(c.load), at(c.at), 1)); got != c.want {
			t.Errorf("%s at %s: %v instead of %v", c.load, c.at, got, c.want)
		}
	}
}

// P25.2: fillings with the volume 0 count nothing, frozen or not, and weights with the mass 0 do not either.
func TestNothing(t *testing.T) {
	s := tanker(t)
	with, without := loaded("a 3 1 2 3 0 2, b 0 100 1 1 99 101; aft 0, No.1-P 7, hull 0 frozen"), loaded("a 3 1 2 3 0 2; No.1-P 7")
	for _, a := range attitudes() {
		x, y := need[api.Spot](t)(Centre(s, with, a, 3)), need[api.Spot](t)(Centre(s, without, a, 3))
		if x != y {
			t.Errorf("%v: %v and %v", a, x, y)
		}
	}
}

// P25.3
func TestFill(t *testing.T) {
	s := tanker(t)
	for _, c := range []struct {
		load, fill, want string
	}{
		{"", "aft 1/3", "; aft 1/3"},
		{"a 1 1 0 0 0 2", "aft 0 frozen", "a 1 1 0 0 0 2; aft 0 frozen"},
		{"; No.1-P 1, aft 1/3", "hull 0", "; No.1-P 1, aft 1/3, hull 0"},
		{"; No.1-P 1, aft 1/3", "aft 1/4 frozen", "; No.1-P 1, aft 1/4 frozen"},
		{"a 1 1 0 0 0 2; No.1-P 1 frozen, aft 1/3, No.1-S 2", "No.1-P 3", "a 1 1 0 0 0 2; No.1-P 3, aft 1/3, No.1-S 2"},
		{"; No.1-P 1, aft 1/3, No.1-S 2", "aft 1/3", "; No.1-P 1, aft 1/3, No.1-S 2"},
		{"; No.1-P 1, aft 1/3, No.1-S 2", "aft 0", "; No.1-P 1, aft 0, No.1-S 2"},
		{"a 0 1 0 0 0 2, b 5 1 0 0 0 2; No.1-P 0, aft 1/3", "No.1-S 399/8", "a 0 1 0 0 0 2, b 5 1 0 0 0 2; No.1-P 0, aft 1/3, No.1-S 399/8"},
	} {
		if got := need[api.Condition](t)(Fill(s, loaded(c.load), loaded("; " + c.fill).Fillings[0])); !areEqual(got, loaded(c.want)) {
			t.Errorf("%s, filled with %s: %v", c.load, c.fill, got)
		}
	}
}

// P25.3
func TestWithout(t *testing.T) {
	s := tanker(t)
	for _, c := range []struct{ load, name, want string }{
		{"; aft 1/3", "aft", ""},
		{"a 1 1 0 0 0 2; aft 0 frozen", "aft", "a 1 1 0 0 0 2"},
		{"; No.1-P 1, aft 1/3, No.1-S 2", "No.1-P", "; aft 1/3, No.1-S 2"},
		{"; No.1-P 1, aft 1/3, No.1-S 2", "aft", "; No.1-P 1, No.1-S 2"},
		{"a 1 1 0 0 0 2; No.1-P 1 frozen, aft 1/3, No.1-S 2 frozen", "No.1-S", "a 1 1 0 0 0 2; No.1-P 1 frozen, aft 1/3"},
		{"hull 1 1 0 0 0 2; hull 0", "hull", "hull 1 1 0 0 0 2"},
	} {
		if got := need[api.Condition](t)(Without(s, loaded(c.load), c.name)); !areEqual(got, loaded(c.want)) {
			t.Errorf("%s without %s: %v", c.load, c.name, got)
		}
	}
}

// P25.4: what was filled can be taken away.
func TestFillAndWithout(t *testing.T) {
	for i, x := range trials(t) {
		for _, vessel := range x.s.Tanks {
			filled := need[api.Condition](t)(Fill(x.s, x.c, api.Filling{Tank: vessel.Name, Volume: capacityOf(t, x.s, vessel.Name), Frozen: i%2 == 0}))
			emptied := need[api.Condition](t)(Without(x.s, filled, vessel.Name))
			before := x.c
			if slices.ContainsFunc(before.Fillings, func(f api.Filling) bool { return f.Tank == vessel.Name }) {
				before = need[api.Condition](t)(Without(x.s, before, vessel.Name))
			}
			if !areEqual(emptied, before) {
				t.Errorf("trial %d, %s: %v instead of %v", i, vessel.Name, emptied, before)
			}
			added := product(rat(capacityOf(t, x.s, vessel.Name)), rat(vessel.Density))
			if got := difference(rat(need[api.Rat](t)(Mass(x.s, filled))), rat(need[api.Rat](t)(Mass(x.s, before)))); got.Cmp(added) != 0 {
				t.Errorf("trial %d, %s: the mass grows by %v instead of %v", i, vessel.Name, got, added)
			}
		}
	}
}

// P25.4: without liquids, or with full tanks alone, the centre is exact, and turns with the ship.
func TestExactCentres(t *testing.T) {
	s := tanker(t)
	for _, load := range []string{"hull 100 10 0 7/3 0 20, crane 10 8 -1/7 4 15/2 17/2", "hull 100 10 0 7/3 0 20; aft 0, No.1-S 0 frozen"} {
		c := loaded(load)
		centre := need[api.Vector](t)(ledger.Centre(c.Weights))
		for _, a := range attitudes() {
			want := exactly(need[api.Vector](t)(attitude.Turn(a, centre)))
			if got := need[api.Spot](t)(Centre(s, c, a, 0)); got != want {
				t.Errorf("%s at %v: %v instead of %v", load, a, got, want)
			}
		}
	}
	for _, load := range []string{"hull 100 10 0 7/3 0 20", "", "none 0 1 1 1 0 2"} {
		c := loaded(load)
		for i, vessel := range s.Tanks {
			c.Fillings = append(c.Fillings, api.Filling{Tank: vessel.Name, Volume: capacityOf(t, s, vessel.Name), Frozen: i == 1})
		}
		upright := need[api.Spot](t)(Centre(s, c, at("0 0"), 0))
		for _, a := range attitudes() {
			want := exactly(need[api.Vector](t)(attitude.Turn(a, api.Vector{X: upright.Ahead.Lo, Y: upright.Side.Lo, Z: upright.Up.Lo})))
			if got := need[api.Spot](t)(Centre(s, c, a, 2)); got != want || !isExact(got) {
				t.Errorf("full tanks, %s at %v: %v instead of %v", load, a, got, want)
			}
		}
	}
}

// P25.4: liquids in convex tanks are never wholly above those that are frozen.
func TestHeights(t *testing.T) {
	lower := 0
	each(t, convexTrials(t), func(x trial, a api.Attitude) {
		if knownMass(x).Sign() == 0 {
			return
		}
		moving := api.Condition{Weights: x.c.Weights, Fillings: slices.Clone(x.c.Fillings)}
		frozen := api.Condition{Weights: x.c.Weights, Fillings: slices.Clone(x.c.Fillings)}
		for i := range x.c.Fillings {
			moving.Fillings[i].Frozen, frozen.Fillings[i].Frozen = false, true
		}
		for _, k := range []int{0, 5} {
			m, f := need[api.Spot](t)(Centre(x.s, moving, a, k)), need[api.Spot](t)(Centre(x.s, frozen, a, k))
			if rat(m.Up.Lo).Cmp(rat(f.Up.Hi)) > 0 {
				t.Errorf("%v at %v: %v is above %v", x, a, m, f)
			}
			if rat(m.Up.Hi).Cmp(rat(f.Up.Lo)) < 0 {
				lower++
			}
		}
	})
	if lower == 0 {
		t.Error("no moving liquid is surely below the frozen one")
	}
}

// P25.4: the order of weights and fillings does not matter.
func TestOrder(t *testing.T) {
	each(t, trials(t), func(x trial, a api.Attitude) {
		other := api.Condition{Weights: slices.Clone(x.c.Weights), Fillings: slices.Clone(x.c.Fillings)}
		slices.Reverse(other.Weights)
		slices.Reverse(other.Fillings)
		if len(other.Fillings) > 2 {
			other.Fillings[0], other.Fillings[1] = other.Fillings[1], other.Fillings[0]
		}
		m, e := Mass(x.s, x.c)
		n, f := Mass(x.s, other)
		v, g := Displaced(x.s, x.c)
		w, h := Displaced(x.s, other)
		if m != n || e != f || v != w || g != h {
			t.Errorf("%v: %s and %s, %s and %s", x, m, n, v, w)
		}
		c, e := Centre(x.s, x.c, a, 2)
		d, f := Centre(x.s, other, a, 2)
		if c != d || e != f {
			t.Errorf("%v at %v: %v and %v", x, a, c, d)
		}
	})
}

// P25.2, P25.4: more halvings in convex tanks make enclosures that are within those before.
func TestMoreHalvings(t *testing.T) {
	isWithin := func(x, y api.Interval) bool {
		return rat(y.Lo).Cmp(rat(x.Lo)) <= 0 && rat(x.Hi).Cmp(rat(y.Hi)) <= 0
	}
	each(t, convexTrials(t), func(x trial, a api.Attitude) {
		if knownMass(x).Sign() == 0 {
			return
		}
		before := need[api.Spot](t)(Centre(x.s, x.c, a, 0))
		for k := 1; k < 4; k++ {
			got := need[api.Spot](t)(Centre(x.s, x.c, a, k))
			if !isWithin(got.Ahead, before.Ahead) || !isWithin(got.Side, before.Side) || !isWithin(got.Up, before.Up) {
				t.Errorf("%v at %v, %d halvings: %v is not within %v", x, a, k, got, before)
			}
			before = got
		}
	})
}

// P25.1, P25.2: a weight of the mass of a liquid, where a full tank is, makes the same of all.
func TestWeightsInsteadOfLiquids(t *testing.T) {
	s := example(t)
	liquids, weights := loaded("hull 30 5 0 1 0 10; A 4"), loaded("hull 30 5 0 1 0 10, water 4 1 0 1/2 0 2")
	if m, n := need[api.Rat](t)(Mass(s, liquids)), need[api.Rat](t)(Mass(s, weights)); m != n {
		t.Errorf("the masses %s and %s", m, n)
	}
	for _, a := range attitudes() {
		if c, d := need[api.Spot](t)(Centre(s, liquids, a, 3)), need[api.Spot](t)(Centre(s, weights, a, 0)); c != d {
			t.Errorf("%v: the centres %v and %v", a, c, d)
		}
	}
}
