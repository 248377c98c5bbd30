package lever

import (
	"math"
	"math/big"
	"slices"
	"testing"

	"garboard/api"
	"garboard/condition"
	"garboard/ledger"
	"garboard/trim"
)

// The chapter's example.
func TestExample(t *testing.T) {
	want := levers("0 3/4 3/2 0 0 0 0 5/8 5/8")
	if got := need[api.Lever](t)(At(example(t), exampleCondition(), at("0 0"), 2)); got != want {
		t.Errorf("%v instead of %v", got, want)
	}
	// at the first middle, 3/2, there are 60 in the water, so that it becomes the upper end
	want = levers("0 0 3/2 -2 2 -5 5 -1/2 1")
	if got := need[api.Lever](t)(At(example(t), exampleCondition(), at("0 0"), 1)); got != want {
		t.Errorf("%v instead of %v", got, want)
	}
}

// half floats with half of the hull in the water, whatever its attitude is: so all is exact after one halving.
func half() api.Condition { return loaded("hull 60 5 0 3/2 0 10") }

// P26.1: by the closed form of a hull with upright sides: at the tangent 3/4 its centre of buoyancy is at (2/3, 1).
func TestHalfHull(t *testing.T) {
	for _, c := range []struct{ load, at, righting, trimming, height string }{
		{"hull 60 5 0 3/2 0 10", "0 0", "0", "0", "3/4"},
		{"hull 60 5 0 3/2 0 10", "1/3 0", "7/30", "0", "4/5"},
		{"hull 60 5 0 3/2 0 10", "-1/3 0", "-7/30", "0", "4/5"},
		{"hull 60 5 1/6 3/2 0 10", "1/3 0", "1/10", "0", "7/10"},
		{"hull 60 19/4 0 3/2 9/2 5", "1/3 0", "7/30", "1/4", "4/5"},
	} {
		got := need[api.Lever](t)(At(example(t), loaded(c.load), at(c.at), 1))
		exact := func(x string) api.Interval { return api.Interval{Lo: api.Rat(x), Hi: api.Rat(x)} }
		if got.Righting != exact(c.righting) || got.Trimming != exact(c.trimming) || got.Height != exact(c.height) {
			t.Errorf("%v: %v", c, got)
		}
	}
}

// P26.1
func TestAt(t *testing.T) {
	eachTrial(t, trials(t), func(x trial, a api.Attitude) {
		for _, k := range []int{0, 1, 4} {
			want := knownLevers(t, x, a, k, knownLevel(t, x, a, k))
			if got := need[api.Lever](t)(At(x.s, x.c, a, k)); got != want {
				t.Errorf("%v at %v, %d halvings: %v instead of %v", x, a, k, got, want)
			}
		}
	})
}

// P26.1: with the most halvings.
func TestMostHalvings(t *testing.T) {
	x, a := convexTrials(t)[5], at("1/7 1/100")
	want := knownLevers(t, x, a, api.MaxHalvings, knownLevel(t, x, a, api.MaxHalvings))
	if got := need[api.Lever](t)(At(x.s, x.c, a, api.MaxHalvings)); got != want {
		t.Errorf("%v instead of %v", got, want)
	}
}

// P26.1
func TestCurve(t *testing.T) {
	for i, x := range trials(t) {
		for _, heels := range []string{"0", "-1 -1/3 0 2/7 1", "-1/1000003 0 1/1000003 1/1000000"} {
			trim, k := attitudes()[i%8].Trim, i%4
			l := rats(heels)
			got := need[[]api.Lever](t)(Curve(x.s, x.c, l, trim, k))
			var want []api.Lever
			for _, heel := range l {
				want = append(want, need[api.Lever](t)(At(x.s, x.c, api.Attitude{Heel: heel, Trim: trim}, k)))
			}
			if !slices.Equal(got, want) {
				t.Errorf("trial %d at %s, the trim %s: %v instead of %v", i, heels, trim, got, want)
			}
		}
	}
	l := mostHeels()
	if got := need[[]api.Lever](t)(Curve(example(t), exampleCondition(), l, "1/9", 0)); len(got) != len(l) || got[23].Heel != l[23] {
		t.Errorf("the most heels: %v", got)
	}
}

// mostHeels are as many as there may be.
func mostHeels() []api.Rat {
	var out []api.Rat
	for i := range api.MaxHeels {
		out = append(out, text(big.NewRat(int64(i-12), 12)))
	}
	return out
}

// P26.1, P26.4: levers that were computed are right, at their trim and their number of halvings.
func TestVerify(t *testing.T) {
	eachTrial(t, trials(t), func(x trial, a api.Attitude) {
		for _, k := range []int{0, 3} {
			l := need[api.Lever](t)(At(x.s, x.c, a, k))
			if e := Verify(x.s, x.c, a.Trim, k, l); e != api.OK {
				t.Errorf("%v at %v, %d halvings: the error %d", x, a, k, e)
			}
		}
	})
}

// P26.1: levers by other levels that are right, and by levels that are not.
func TestVerifyLevels(t *testing.T) {
	count := map[api.Errno]int{}
	for _, i := range []int{0, 5, 8} {
		x := trials(t)[i]
		for _, a := range attitudes()[4:6] {
			levels := []api.Interval{knownLevel(t, x, a, 0), knownLevel(t, x, a, 1), knownLevel(t, x, a, 6), ends("-100 100"), ends("0 1"), ends("-50 -49"), ends("49 50"), ends("1 -1"), ends("0 0"), knownLevel(t, x, a, 9)}
			levels[9].Hi = levels[9].Lo // a single level is hardly ever right
			for _, level := range levels {
				l := need[api.Lever](t)(At(x.s, x.c, a, 2))
				by, e := (ship{x.s, x.c, need[api.Rat](t)(condition.Displaced(x.s, x.c)), 2}).leversBy(a, level)
				if e == api.OK {
					l = by
				}
				l.Level = level
				want := api.ErrProof
				if isRight(t, x, a.Trim, 2, l) {
					want = api.OK
				}
				if got := Verify(x.s, x.c, a.Trim, 2, l); got != want {
					t.Errorf("%v at %v by %v: the error %d instead of %d", x, a, level, got, want)
				}
				count[want]++
			}
		}
	}
	if count[api.OK] < 18 || count[api.ErrProof] < 18 {
		t.Errorf("there were %v", count)
	}
}

// P26.1: levers of which one number was changed are not right, even if they enclose more: both ends of the level bear on the height. Levers of another trim, heel, condition or number of halvings are not right either.
func TestVerifyChanges(t *testing.T) {
	x, a := convexTrials(t)[5], at("1/7 1/100")
	l := need[api.Lever](t)(At(x.s, x.c, a, 4))
	for i := range places(&l) {
		for _, by := range []string{"1/1000000007", "-1/1000000007", "1", "-1"} {
			changed := l
			number := places(&changed)[i]
			*number = text(sum(rat(*number), rat(api.Rat(by))))
			if got := Verify(x.s, x.c, a.Trim, 4, changed); got != api.ErrProof {
				t.Errorf("number %d, changed by %s: the error %d", i, by, got)
			}
		}
	}
	other := l
	other.Righting.Lo, other.Righting.Hi = l.Righting.Hi, l.Righting.Lo
	for _, c := range []struct {
		l    api.Lever
		trim api.Rat
		k    int
	}{{other, a.Trim, 4}, {l, "1/101", 4}, {l, "-1/100", 4}, {l, a.Trim, 3}, {l, a.Trim, 5}} {
		if got := Verify(x.s, x.c, c.trim, c.k, c.l); got != api.ErrProof {
			t.Errorf("%v at the trim %s, %d halvings: the error %d", c.l, c.trim, c.k, got)
		}
	}
	other = l
	other.Heel = "1/8"
	if got := Verify(x.s, x.c, a.Trim, 4, other); got != api.ErrProof {
		t.Errorf("at another heel: the error %d", got)
	}
	heavier := loaded("hull 201 10 0 7/3 0 20, crane 10 8 -1/7 4 15/2 17/2; P 20, aft 1/2, S 7")
	if got := Verify(x.s, heavier, a.Trim, 4, l); got != api.ErrProof {
		t.Errorf("in another condition: the error %d", got)
	}
}

// P26.1: without liquids that move, the number of halvings does not matter, because the level stands in the levers.
func TestVerifyWithoutLiquids(t *testing.T) {
	l := need[api.Lever](t)(At(example(t), exampleCondition(), at("1/5 1/6"), 5))
	for _, k := range []int{0, 5, api.MaxHalvings} {
		if e := Verify(example(t), exampleCondition(), "1/6", k, l); e != api.OK {
			t.Errorf("%d halvings: the error %d", k, e)
		}
	}
}

// P26.2
func TestArea(t *testing.T) {
	for i, x := range trials(t) {
		for k, trim := range []api.Rat{"0", "1/2", "-1/3", "12345/54322"} {
			l := need[[]api.Lever](t)(Curve(x.s, x.c, rats("-1/2 0 1/7 1"), trim, (i+k)%4))
			for from := range l {
				for _, to := range l[from:] {
					want := knownArea(l[from], to, trim)
					if got := need[api.Interval](t)(Area(l[from], to, trim)); got != want {
						t.Errorf("trial %d from %s to %s, the trim %s: %v instead of %v", i, l[from].Heel, to.Heel, trim, got, want)
					}
				}
			}
		}
	}
}

// P26.2: heels, trims and heights alone bear on the area.
func TestAreaOfNumbers(t *testing.T) {
	for _, c := range []struct {
		l, m, want string
		trim       api.Rat
	}{
		{"0 0 0 0 0 0 0 5/8 5/8", "1 0 0 0 0 0 0 1 1", "3/8 3/8", "0"},
		{"0 0 0 0 0 0 0 5/8 5/8", "1 0 0 0 0 0 0 1 1", "5/8 5/8", "1/2"},
		{"0 0 0 0 0 0 0 5/8 5/8", "1 0 0 0 0 0 0 1 1", "5/8 5/8", "-1/2"},
		{"0 0 0 0 0 0 0 0 1", "1/2 0 0 0 0 0 0 5 7", "4 7", "0"},
		{"-1 9 8 7 6 5 4 0 1", "1 -9 -8 -7 -6 -5 -4 -7 -5", "-10 -25/4", "1/3"},
		{"1/3 1 2 3 4 5 6 2 3", "1/3 3 3 3 3 3 3 2 3", "-1 1", "0"},
		{"-1/3 1 2 3 4 5 6 3 2", "1/3 3 3 3 3 3 3 -2 -3", "-4 -6", "0"}, // ends in the wrong order are numbers, too
	} {
		if got := need[api.Interval](t)(Area(levers(c.l), levers(c.m), c.trim)); got != ends(c.want) {
			t.Errorf("%v: %v", c, got)
		}
	}
}

// P26.2: the closed form of a hull with upright sides, from the heel 0 to the tangent 3/4: that of the righting lever sin (5/36 + 4/9 tan^2).
func TestAreaOfHalfHull(t *testing.T) {
	l := need[[]api.Lever](t)(Curve(example(t), half(), rats("-1/3 0 1/3"), "0", 1))
	for _, c := range []struct {
		from, to int
		want     string
	}{{1, 2, "1/20 1/20"}, {0, 1, "-1/20 -1/20"}, {0, 2, "0 0"}, {1, 1, "0 0"}} {
		if got := need[api.Interval](t)(Area(l[c.from], l[c.to], "0")); got != ends(c.want) {
			t.Errorf("%v: %v", c, got)
		}
	}
}

// P26.2: the area is the integral of the righting lever by the angle of heel, at trims, too. Levers and heights are exact here; the sum of many trapezoids is near the integral.
func TestAreaIsAnIntegral(t *testing.T) {
	const steps = 23
	for _, trim := range []api.Rat{"0", "1/4", "-1/2"} {
		var heels []api.Rat
		for i := range steps + 1 {
			heels = append(heels, text(big.NewRat(int64(i), 2*steps)))
		}
		l := need[[]api.Lever](t)(Curve(example(t), half(), heels, trim, 1))
		total := 0.0
		for i := range steps {
			low, high := decimal(l[i].Righting.Lo), decimal(l[i+1].Righting.Lo)
			total += (low + high) / 2 * (angleOf(heels[i+1]) - angleOf(heels[i]))
		}
		area := need[api.Interval](t)(Area(l[0], l[steps], trim))
		if area.Lo != area.Hi || math.Abs(decimal(area.Lo)-total) > 0.002 || math.Abs(total) < 0.01 {
			t.Errorf("the trim %s: %v and %v", trim, area, total)
		}
	}
}

func decimal(x api.Rat) float64 {
	f, _ := rat(x).Float64()
	return f
}

// angleOf is the angle with a half tangent.
func angleOf(x api.Rat) float64 { return 2 * math.Atan(decimal(x)) }

// P26.4: the area between two heels is within the sum of those over a heel between.
func TestAreasOverAHeelBetween(t *testing.T) {
	eachTrial(t, convexTrials(t), func(x trial, a api.Attitude) {
		l := need[[]api.Lever](t)(Curve(x.s, x.c, rats("-1/3 1/9 1/2"), a.Trim, 3))
		area := func(from, to int) api.Interval {
			return need[api.Interval](t)(Area(l[from], l[to], a.Trim))
		}
		first, second := area(0, 1), area(1, 2)
		both := api.Interval{Lo: text(sum(rat(first.Lo), rat(second.Lo))), Hi: text(sum(rat(first.Hi), rat(second.Hi)))}
		if !isWithin(area(0, 2), both) {
			t.Errorf("%v: %v is not within %v", x, area(0, 2), both)
		}
	})
}

// P26.4: with a convex hull, convex tanks and more halvings all intervals are within those before.
func TestMoreHalvings(t *testing.T) {
	eachTrial(t, convexTrials(t), func(x trial, a api.Attitude) {
		before := need[api.Lever](t)(At(x.s, x.c, a, 0))
		for k := 1; k < 5; k++ {
			got := need[api.Lever](t)(At(x.s, x.c, a, k))
			if !isWithin(got.Level, before.Level) || !isWithin(got.Righting, before.Righting) || !isWithin(got.Trimming, before.Trimming) || !isWithin(got.Height, before.Height) {
				t.Errorf("%v at %v, %d halvings: %v is not within %v", x, a, k, got, before)
			}
			before = got
		}
	})
}

// P26.4: moving a weight to the side moves the righting lever by its share of the mass.
func TestWeightsThatAreMoved(t *testing.T) {
	eachTrial(t, trials(t), func(x trial, a api.Attitude) {
		if len(x.c.Weights) == 0 {
			return
		}
		for _, by := range []string{"1", "-3/7"} {
			w := x.c.Weights[0]
			moved := trial{x.s, api.Condition{Weights: need[[]api.Weight](t)(ledger.Move(x.c.Weights, w.Name, point("0 "+by+" 0"))), Fillings: x.c.Fillings}}
			share := quotient(product(rat(w.Mass), rat(api.Rat(by))), rat(need[api.Rat](t)(condition.Mass(x.s, x.c))))
			less := product(share, alongSide(t, a))
			before, behind := need[api.Lever](t)(At(x.s, x.c, a, 2)), need[api.Lever](t)(At(x.s, moved.c, a, 2))
			want := api.Interval{Lo: text(difference(rat(before.Righting.Lo), less)), Hi: text(difference(rat(before.Righting.Hi), less))}
			if behind.Righting != want || behind.Level != before.Level {
				t.Errorf("%v at %v, moved by %s: %v instead of %v", x, a, by, behind.Righting, want)
			}
		}
	})
}

// P26.4: a mirrored craft at the opposite heel has the opposite righting lever, and the same height.
func TestMirroredCrafts(t *testing.T) {
	eachTrial(t, trials(t), func(x trial, a api.Attitude) {
		other := mirrored(t, x)
		l := need[api.Lever](t)(At(x.s, x.c, a, 3))
		want := l
		want.Heel = opposite(l.Heel)
		want.Righting = api.Interval{Lo: opposite(l.Righting.Hi), Hi: opposite(l.Righting.Lo)}
		if got := need[api.Lever](t)(At(other.s, other.c, api.Attitude{Heel: want.Heel, Trim: a.Trim}, 3)); got != want {
			t.Errorf("%v at %v: %v instead of %v", x, a, got, want)
		}
	})
}

// attempt is a balance that is asked for; some have no sure signs, or equal ones.
type attempt struct {
	x     trial
	heel  api.Rat
	trims [2]api.Rat
	k     int
}

func attempts(t *testing.T) []attempt {
	t.Helper()
	ahead := trial{example(t), loaded("hull 40 6 0 1 5 7")}
	middle := trial{example(t), loaded("hull 40 5 0 1 0 10")}
	wet := trial{example(t), loaded("hull 40 11/2 0 1 5 6; A 3")}
	return []attempt{
		{ahead, "0", pair("0 1/8"), 6},
		{ahead, "1/7", pair("-1/3 1/2"), 9},
		{ahead, "0", pair("1/8 1/4"), 9},     // both lift the bow
		{ahead, "0", pair("-1/8 0"), 9},      // both lift the stern
		{middle, "0", pair("-1/8 1/8"), 12},  // nothing is sure at the middle
		{middle, "0", pair("-1/8 1/16"), 7},  // it is sure once, and not later on
		{middle, "0", pair("-1/8 1/8"), 0},   // undecided
		{middle, "0", pair("0 1/8"), 12},     // undecided at the first end
		{middle, "-1/2", pair("-1/8 0"), 12}, // undecided at the second end
		{wet, "0", pair("-1/8 1/8"), 8},      // with a liquid that moves
		{wet, "1/5", pair("-1/4 1/4"), 7},    //
		{convexTrials(t)[5], "1/9", pair("-1/4 1/4"), 7},
		{convexTrials(t)[7], "-3/8", pair("-1/2 1/2"), 7},
		{trials(t)[9], "1/9", pair("-1/5 1/4"), 8},
		{middle, "0", pair("-1/2 -1/3"), 5},
	}
}

// P26.3
func TestBalance(t *testing.T) {
	count := map[api.Errno]int{}
	for i, c := range attempts(t) {
		for _, n := range []int{0, 2, 5} {
			want, e := knownBalance(t, c.x, c.heel, c.trims, c.k, n)
			got, f := Balance(c.x.s, c.x.c, c.heel, c.trims, c.k, n)
			if got != want || e != f {
				t.Errorf("attempt %d, %d halvings: %v instead of %v, %d instead of %d", i, n, got, want, f, e)
			}
			count[e]++
		}
	}
	if count[api.OK] < 21 || count[api.ErrUndecided] < 9 || count[api.ErrMismatch] < 9 {
		t.Errorf("there were %v", count)
	}
}

// P26.3: without liquids that move, it is the balance of layer 21; with levers that turn the other way, too.
func TestBalancesOfBodies(t *testing.T) {
	signs := map[int]int{}
	for _, load := range []string{"hull 40 6 0 1 5 7", "hull 40 5 0 100 0 10", "hull 39 5 0 1 0 10; A 1 frozen"} {
		c := loaded(load)
		g := need[api.Spot](t)(condition.Centre(example(t), c, at("0 0"), 2))
		want, e := trim.Balance(example(t).Hull, "0", "40", api.Vector{X: g.Ahead.Lo, Y: g.Side.Lo, Z: g.Up.Lo}, pair("-1/9 1/8"), 10, 6)
		got, f := Balance(example(t), c, "0", pair("-1/9 1/8"), 10, 6)
		if len(c.Fillings) == 0 && got != (api.Interval{Lo: want.Lo, Hi: want.Hi}) || e != api.OK || f != api.OK {
			t.Errorf("%s: %v instead of %v, %d, %d", load, got, want, f, e)
		}
		signs[trim.Sign(want.LoLever)]++
	}
	if signs[1] != 1 || signs[-1] != 2 {
		t.Errorf("the signs are %v", signs)
	}
}

// P26.3: with the most halvings of trims, and a centre of gravity far below, which keeps all signs sure.
func TestMostHalvingsOfTrims(t *testing.T) {
	c := loaded("hull 40 11/2 0 -1000000 5 6")
	got := need[api.Interval](t)(Balance(example(t), c, "0", pair("0 1/8"), 14, api.MaxHalvings))
	if width := difference(rat(got.Hi), rat(got.Lo)); width.Cmp(big.NewRat(1, 8<<api.MaxHalvings)) != 0 {
		t.Errorf("%v has the width %v", got, width)
	}
	low := need[api.Lever](t)(At(example(t), c, api.Attitude{Heel: "0", Trim: got.Lo}, 14))
	high := need[api.Lever](t)(At(example(t), c, api.Attitude{Heel: "0", Trim: got.Hi}, 14))
	if knownSign(low.Trimming)*knownSign(high.Trimming) != -1 {
		t.Errorf("the levers %v and %v", low, high)
	}
}

// P26.3: a middle that is not sure ends the halving.
func TestMiddlesThatAreNotSure(t *testing.T) {
	c := loaded("hull 40 5 0 1 0 10")
	for _, n := range []int{0, 1, 2, api.MaxHalvings} {
		if got := need[api.Interval](t)(Balance(example(t), c, "0", pair("-1/8 1/8"), 6, n)); got != ends("-1/8 1/8") {
			t.Errorf("%d halvings: %v", n, got)
		}
	}
	first, last := need[api.Interval](t)(Balance(example(t), c, "0", pair("-1/8 1/16"), 6, 1)), need[api.Interval](t)(Balance(example(t), c, "0", pair("-1/8 1/16"), 6, api.MaxHalvings))
	if first != ends("-1/32 1/16") || last.Hi == "1/16" {
		t.Errorf("%v, %v", first, last)
	}
}
