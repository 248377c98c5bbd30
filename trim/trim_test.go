package trim

import (
	"math/big"
	"testing"

	"garboard/api"
	"garboard/mesh"
)

// The chapter's examples.
func TestExamples(t *testing.T) {
	for _, c := range []struct {
		a, g, level, lever string
		k, sign            int
	}{
		{"0 0", "6 0 1", "63/64 33/32", "-69/64 -59/64", 6, -1},
		{"0 0", "5 0 1", "63/64 33/32", "-5/64 5/64", 6, 0},
		{"0 0", "6 0 1", "3/4 3/2", "-9/4 1/4", 2, 0},
	} {
		level, lever, e := Lever(example(t), at(c.a), "40", point(c.g), c.k)
		if e != api.OK || level != between(c.level) || lever != between(c.lever) || Sign(lever) != c.sign {
			t.Errorf("%v: %v, %v, %d", c, level, lever, e)
		}
	}
	if _, lever, e := Lever(example(t), at("0 1/8"), "40", point("6 0 1"), 6); e != api.OK || Sign(lever) != 1 {
		t.Errorf("at 1/8: %v, %d", lever, e)
	}
	b, e := Balance(example(t), "0", "40", point("6 0 1"), pair("0 1/8"), 6, 0)
	want := api.Balance{Heel: "0", Lo: "0", Hi: "1/8", LoLevel: between("63/64 33/32"), LoLever: between("-69/64 -59/64"), HiLevel: b.HiLevel, HiLever: b.HiLever}
	if e != api.OK || b != want || Sign(b.HiLever) != 1 {
		t.Errorf("the balance %v, %d", b, e)
	}
}

// P21.1
func TestSign(t *testing.T) {
	for ends, want := range map[string]int{
		"1 2": 1, "1/1000000000000000000000 1/1000000000000000000000": 1, "-2 -1": -1, "-7 -1/3": -1,
		"0 0": 0, "0 1": 0, "-1 0": 0, "-1 1": 0, "-1/3 5": 0,
		"2 1": 0, "-1 -2": 0, "1 -1": 0, "1 0": 0, "0 -1": 0,
		"x 1": 0, "1 x": 0, "2/4 1": 0, "1 4/2": 0, "-1 -0": 0, "-1.5 -1": 0, "01 2": 0,
	} {
		if got := Sign(between(ends)); got != want {
			t.Errorf("%s: %d instead of %d", ends, got, want)
		}
	}
	for _, i := range []api.Interval{{}, {Lo: "1"}, {Hi: "-1"}} {
		if got := Sign(i); got != 0 {
			t.Errorf("%v: %d", i, got)
		}
	}
}

// each calls a function for bodies, attitudes, volumes and centres of gravity of many kinds.
func each(t *testing.T, see func(s api.Solid, a api.Attitude, volume *big.Rat, g api.Vector)) {
	t.Helper()
	parts := []*big.Rat{big.NewRat(1, 1000003), big.NewRat(1, 3), big.NewRat(1, 2), big.NewRat(1, 1)}
	for i, s := range bodies(t) {
		whole := wholeOf(t, s)
		for k, a := range attitudes() {
			see(s, a, product(whole, parts[(i+k)%4]), centres()[(i+k/2)%4])
		}
	}
}

// P21.1: the bracket, and the lever by it.
func TestLever(t *testing.T) {
	each(t, func(s api.Solid, a api.Attitude, volume *big.Rat, g api.Vector) {
		for _, k := range []int{0, 1, 2, 5} {
			level := knownLevel(t, s, a, volume, k)
			want := knownLever(t, s, a, volume, g, level)
			got, lever, e := Lever(s, a, text(volume), g, k)
			if e != api.OK || got != level || lever != want {
				t.Errorf("%v at %v, %v, %v, %d halvings: %v, %v instead of %v, %v, %d", s, a, volume, g, k, got, lever, level, want, e)
			}
		}
	})
}

// P21.1: with the most halvings.
func TestLeverWithMostHalvings(t *testing.T) {
	a, volume, g := at("1/3 -1/7"), big.NewRat(22, 7), point("3 1/3 -2")
	level := knownLevel(t, hull(t), a, volume, api.MaxHalvings)
	want := knownLever(t, hull(t), a, volume, g, level)
	if got, lever, e := Lever(hull(t), a, text(volume), g, api.MaxHalvings); e != api.OK || got != level || lever != want {
		t.Errorf("%v, %v, %d", got, lever, e)
	}
}

// P21.1: where the level is exact the lever is that of the centre of the part in the water: it is positive if the buoyancy lies ahead of the weight.
func TestExactLevers(t *testing.T) {
	for _, c := range []struct {
		a, g, level, lever string
		volume             api.Rat
	}{
		{"0 0", "4 1 7", "3/2 3", "1 1", "60"},
		{"0 0", "7 1 7", "3/2 3", "-2 -2", "60"},
		{"1 0", "7 1 7", "0 2", "-2 -2", "60"},
		{"-1/2 0", "0 9 9", "9/10 17/5", "5 5", "60"},
	} {
		level, lever, e := Lever(example(t), at(c.a), c.volume, point(c.g), 1)
		if e != api.OK || level != between(c.level) || lever != between(c.lever) {
			t.Errorf("%v: %v, %v, %d", c, level, lever, e)
		}
	}
}

// trials are balances that are asked for; some have no sure signs, or equal ones.
type trial struct {
	s            api.Solid
	heel, volume api.Rat
	g            api.Vector
	trims        [2]api.Rat
	k            int
}

func trials(t *testing.T) []trial {
	t.Helper()
	return []trial{
		{example(t), "0", "40", point("6 0 1"), pair("0 1/8"), 6},
		{example(t), "1/7", "40", point("6 1/3 1"), pair("-1/3 1/2"), 9},
		{example(t), "0", "40", point("5 0 1"), pair("-1/8 1/8"), 12}, // nothing is sure at the middle
		{example(t), "0", "40", point("5 0 1"), pair("-1/8 1/16"), 7}, // it is sure once, and not later on
		{example(t), "0", "40", point("5 0 1"), pair("-1/8 1/8"), 0},  // undecided
		{example(t), "0", "40", point("5 0 1"), pair("0 1/8"), 12},    // undecided at the first end
		{example(t), "0", "40", point("5 0 1"), pair("-1/8 0"), 12},   // undecided at the second end
		{example(t), "0", "40", point("6 0 1"), pair("1/8 1/4"), 9},   // both lift the bow
		{example(t), "0", "40", point("6 0 1"), pair("-1/8 0"), 9},    // both lift the stern
		{example(t), "0", "60", point("9/2 0 100"), pair("-1/4 1/4"), 8},
		{example(t), "0", "1/2", point("7 0 0"), pair("-1/8 1/8"), 12}, // a small volume, of which just the ends reach into the water
		{hull(t), "1/5", "12", point("3 0 1"), pair("-1/4 1/4"), 8},
		{hull(t), "-1", "9", point("5/2 1/2 2"), pair("-1/2 1/2"), 8},
		{wedge(), "-3/8", "20", point("1 2 1"), pair("-1/2 1/2"), 7},
		{bodies(t)[3], "1/9", "41/3", point("4 0 1"), pair("-1/5 1/4"), 8},
		{bodies(t)[5], "0", "8", point("5 1 1"), pair("-1/2 1/3"), 8},
		{underSlab(t), "1/100", "100", point("26/5 0 2"), pair("-1/9 1/9"), 10},
	}
}

// P21.2, P21.3: balances are those of the definition, and right.
func TestBalance(t *testing.T) {
	count := map[api.Errno]int{}
	for i, c := range trials(t) {
		for _, n := range []int{0, 1, 2, 6} {
			want, e := knownBalance(t, c.s, c.heel, rat(c.volume), c.g, c.trims, c.k, n)
			got, f := Balance(c.s, c.heel, c.volume, c.g, c.trims, c.k, n)
			if got != want || e != f {
				t.Errorf("trial %d, %d halvings: %v instead of %v, %d instead of %d", i, n, got, want, f, e)
			}
			count[e]++
			if e == api.OK {
				if e := Check(c.s, c.volume, c.g, got); e != api.OK {
					t.Errorf("trial %d, %d halvings: %v is not right, %d", i, n, got, e)
				}
			}
		}
	}
	if count[api.OK] < 32 || count[api.ErrUndecided] < 12 || count[api.ErrMismatch] < 8 {
		t.Errorf("there were %v", count)
	}
}

// P21.2: a lever that turns the other way: the first end can be the positive one.
func TestBalancesThatAreNotStable(t *testing.T) {
	signs := map[int]int{}
	for _, g := range points("5 0 100, 5 0 1") {
		b, e := Balance(example(t), "0", "40", g, pair("-1/8 1/9"), 10, 5)
		if e != api.OK || Check(example(t), "40", g, b) != api.OK {
			t.Errorf("%v: %v, %d", g, b, e)
		}
		want, _ := knownBalance(t, example(t), "0", rat("40"), g, pair("-1/8 1/9"), 10, 5)
		if b != want {
			t.Errorf("%v: %v instead of %v", g, b, want)
		}
		signs[Sign(b.LoLever)]++
	}
	if signs[1] != 1 || signs[-1] != 1 {
		t.Errorf("the signs are %v", signs)
	}
}

// P21.2: a middle that is not sure ends the halving.
func TestMiddlesThatAreNotSure(t *testing.T) {
	for _, n := range []int{0, 1, 2, api.MaxHalvings} {
		b, e := Balance(example(t), "0", "40", point("5 0 1"), pair("-1/8 1/8"), 6, n)
		if e != api.OK || b.Lo != "-1/8" || b.Hi != "1/8" {
			t.Errorf("%d halvings: %v, %d", n, b, e)
		}
	}
	first, e := Balance(example(t), "0", "40", point("5 0 1"), pair("-1/8 1/16"), 6, 1)
	last, f := Balance(example(t), "0", "40", point("5 0 1"), pair("-1/8 1/16"), 6, api.MaxHalvings)
	if e != api.OK || f != api.OK || first.Lo != "-1/32" || last.Hi == "1/16" {
		t.Errorf("%v, %v", first, last)
	}
}

// P21.2, P21.3: with the most halvings both ends come together. A centre of gravity far below keeps all signs sure.
func TestMostHalvings(t *testing.T) {
	for _, c := range []struct {
		g     string
		width *big.Rat
	}{{"6 0 1", big.NewRat(1, 1<<18)}, {"11/2 0 -1000000", big.NewRat(1, 8<<api.MaxHalvings)}} {
		b, e := Balance(example(t), "0", "40", point(c.g), pair("0 1/8"), api.MaxHalvings, api.MaxHalvings)
		want, _ := knownBalance(t, example(t), "0", rat("40"), point(c.g), pair("0 1/8"), api.MaxHalvings, api.MaxHalvings)
		if e != api.OK || b != want || width(b).Cmp(c.width) > 0 {
			t.Errorf("%s: %v instead of %v, %d", c.g, b, want, e)
		}
		if e := Check(example(t), "40", point(c.g), b); e != api.OK {
			t.Errorf("%s: %v is not right, %d", c.g, b, e)
		}
	}
}

// P21.3: balances with more halvings are within those before, and narrower, as long as signs are sure.
func TestMoreHalvings(t *testing.T) {
	for i, c := range trials(t) {
		var before api.Balance
		for n := range 7 {
			b, e := Balance(c.s, c.heel, c.volume, c.g, c.trims, c.k, n)
			if e != api.OK {
				break
			}
			if n > 0 && (!isWithin(trimsOf(b), trimsOf(before)) || b != before && width(b).Cmp(quotient(width(before), big.NewRat(2, 1))) != 0) {
				t.Errorf("trial %d, %d halvings: %v behind %v", i, n, b, before)
			}
			before = b
		}
	}
}

func trimsOf(b api.Balance) api.Interval { return api.Interval{Lo: b.Lo, Hi: b.Hi} }

func width(b api.Balance) *big.Rat { return difference(rat(b.Hi), rat(b.Lo)) }

// P21.3: a mirrored solid at the opposite heel has the same balance.
func TestMirroredSolids(t *testing.T) {
	for i, c := range trials(t) {
		g := c.g
		g.Y = text(new(big.Rat).Neg(rat(g.Y)))
		heel := text(new(big.Rat).Neg(rat(c.heel)))
		want, e := Balance(c.s, c.heel, c.volume, c.g, c.trims, c.k, 3)
		got, f := Balance(need[api.Solid](t)(mesh.Mirror(c.s)), heel, c.volume, g, c.trims, c.k, 3)
		if e == api.OK {
			want.Heel = heel
		}
		if got != want || e != f {
			t.Errorf("trial %d: %v instead of %v, %d, %d", i, got, want, e, f)
		}
	}
}

// P21.3: if the centre of gravity is moved ahead, the lever gets smaller by as much; moving it to the side, or up in the water, changes nothing.
func TestCentresThatAreMoved(t *testing.T) {
	each(t, func(s api.Solid, a api.Attitude, volume *big.Rat, g api.Vector) {
		ahead, up := aheadAndUp(a)
		for _, c := range []struct {
			by   triple
			less *big.Rat
		}{{ahead, big.NewRat(3, 7)}, {ahead, big.NewRat(-5, 1)}, {up, big.NewRat(2, 1)}} {
			r := values(g)
			moved := api.Vector{X: text(sum(r[0], product(c.by[0], c.less))), Y: text(sum(r[1], product(c.by[1], c.less))), Z: text(sum(r[2], product(c.by[2], c.less)))}
			_, before, e := Lever(s, a, text(volume), g, 3)
			_, behind, f := Lever(s, a, text(volume), moved, 3)
			less := product(c.less, dot(c.by, ahead))
			want := api.Interval{Lo: text(difference(rat(before.Lo), less)), Hi: text(difference(rat(before.Hi), less))}
			if e != api.OK || f != api.OK || behind != want {
				t.Errorf("%v at %v, %v: %v instead of %v", s, a, moved, behind, want)
			}
		}
	})
}
