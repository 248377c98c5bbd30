package draft

import (
	"math/big"
	"testing"

	"garboard/api"
	"garboard/attitude"
	"garboard/float"
)

// The chapter's examples.
func TestExamples(t *testing.T) {
	for k, want := range []string{"0 3", "0 3/2", "3/4 3/2", "3/4 9/8"} {
		if got, e := Level(example(t), at("0 0"), "40", k); e != api.OK || got != ends(want) {
			t.Errorf("%d halvings: %v instead of %s, %d", k, got, want, e)
		}
	}
	if got, e := Centre(example(t), at("0 0"), "40", ends("3/4 3/2")); e != api.OK || got != spot("15/4 25/4 -1/2 1/2 15/32 21/32") {
		t.Errorf("the centre %v, %d", got, e)
	}
	if got, e := Enclose(example(t), at("0 0"), "40", ends("3/4 3/2")); e != api.OK || got != spot("150 250 -20 20 75/4 105/4") {
		t.Errorf("the moments %v, %d", got, e)
	}
	if e := Check(example(t), at("0 0"), "40", ends("3/4 3/2")); e != api.OK {
		t.Errorf("the level: %d", e)
	}
}

// P20.1: a middle at which just the volume is in the water becomes the lower end, at the least and at the greatest volume, too, and where nothing is between two parts.
func TestMiddlesThatAreExact(t *testing.T) {
	two := append(box(t, "0 -1 0", "4 1 1"), box(t, "0 -1 3", "4 1 4")...)
	for _, c := range []struct {
		s      api.Solid
		volume api.Rat
		k      int
		want   string
	}{
		{example(t), "60", 1, "3/2 3"},
		{example(t), "60", 2, "3/2 9/4"},
		{example(t), "0", 2, "0 3/4"},
		{example(t), "120", 2, "9/4 3"},
		{two, "8", 1, "2 4"},
		{two, "8", 2, "3 4"},
		{two, "8", 4, "3 13/4"},
		{append(example(t), reversed(t, example(t))...), "0", 3, "21/8 3"},
	} {
		if got, e := Level(c.s, at("0 0"), c.volume, c.k); e != api.OK || got != ends(c.want) {
			t.Errorf("%s after %d halvings: %v instead of %s, %d", c.volume, c.k, got, c.want, e)
		}
	}
}

// P20.1, P20.4: brackets are those of the definition; for volumes that grow they are right, and those with more halvings are within those with fewer.
func TestLevel(t *testing.T) {
	each(t, bodies(t), func(s api.Solid, a api.Attitude) {
		whole := wholeOf(t, s, a)
		if whole.Sign() < 0 {
			return
		}
		for i, part := range parts() {
			volume := product(whole, part)
			var before api.Interval
			for _, k := range []int{0, 1, 2, 3, 7 + i} {
				want := knownLevel(t, s, a, volume, k)
				got, e := Level(s, a, text(volume), k)
				if e != api.OK || got != want {
					t.Errorf("%v at %v, %v, %d halvings: %v instead of %v, %d", s, a, volume, k, got, want, e)
				}
				if k > 0 && !isWithin(got, before) {
					t.Errorf("%v at %v, %v, %d halvings: %v is not within %v", s, a, volume, k, got, before)
				}
				before = got
			}
		}
	})
}

// P20.4: the bracket of a solid whose volume is not negative is right.
func TestBracketsAreRight(t *testing.T) {
	each(t, bodies(t), func(s api.Solid, a api.Attitude) {
		whole := wholeOf(t, s, a)
		if whole.Sign() < 0 {
			return
		}
		for _, part := range parts() {
			volume := text(product(whole, part))
			for _, k := range []int{0, 1, 5} {
				level := need[api.Interval](t)(Level(s, a, volume, k))
				if e := Check(s, a, volume, level); e != api.OK {
					t.Errorf("%v at %v, %s: %v is not right, %d", s, a, volume, level, e)
				}
			}
		}
	})
}

// P20.1: with the most halvings.
func TestMostHalvings(t *testing.T) {
	for _, s := range convexBodies(t)[:3] {
		for _, a := range attitudes()[3:6] {
			volume := product(wholeOf(t, s, a), big.NewRat(3, 7))
			want := knownLevel(t, s, a, volume, api.MaxHalvings)
			if got, e := Level(s, a, text(volume), api.MaxHalvings); e != api.OK || got != want {
				t.Errorf("%v at %v: %v instead of %v, %d", s, a, got, want, e)
			}
		}
	}
}

// heightsOf returns some below, in and above a solid.
func heightsOf(t *testing.T, s api.Solid, a api.Attitude) []*big.Rat {
	t.Helper()
	low, high := extentAlong(s, axes(t, a)[2])
	var out []*big.Rat
	for _, part := range []*big.Rat{big.NewRat(-1, 5), new(big.Rat), big.NewRat(2, 7), big.NewRat(1, 2), big.NewRat(6, 7), big.NewRat(1, 1), big.NewRat(9, 8)} {
		out = append(out, between(low, high, part))
	}
	return out
}

// P20.1: of any two levels, and volumes that are exact at one, or lie between, below and above, also negative ones.
func TestCheck(t *testing.T) {
	right := map[bool]int{}
	each(t, bodies(t), func(s api.Solid, a api.Attitude) {
		heights := heightsOf(t, s, a)
		half := volumeAt(t, s, a, heights[3])
		volumes := []*big.Rat{half, sum(half, big.NewRat(1, 1000000000)), difference(half, big.NewRat(1, 3)), wholeOf(t, s, a), new(big.Rat), big.NewRat(-1, 7), big.NewRat(1000000, 1)}
		for i, low := range heights {
			for k, high := range heights {
				volume, level := volumes[(i+2*k)%len(volumes)], api.Interval{Lo: text(low), Hi: text(high)}
				want := api.ErrProof
				if isRight(t, s, a, volume, level) {
					want = api.OK
				}
				right[want == api.OK]++
				if got := Check(s, a, text(volume), level); got != want {
					t.Errorf("%v at %v, %v: %v gives %d instead of %d", s, a, volume, level, got, want)
				}
			}
		}
	})
	if right[true] < 100 || right[false] < 100 {
		t.Errorf("right and wrong levels: %v", right)
	}
}

// P20.1: the ends themselves.
func TestEndsOfLevels(t *testing.T) {
	for _, c := range []struct {
		s      api.Solid
		volume api.Rat
		level  string
		want   api.Errno
	}{
		{example(t), "40", "1 1", api.OK},
		{example(t), "40", "1 2", api.OK},
		{example(t), "40", "-5 1", api.OK},
		{example(t), "40", "2 1", api.ErrProof},
		{example(t), "40", "1000001/1000000 2", api.ErrProof},
		{example(t), "40", "0 999999/1000000", api.ErrProof},
		{example(t), "0", "-7 -6", api.OK},
		{example(t), "0", "0 0", api.OK},
		{example(t), "0", "-6 -7", api.ErrProof},
		{example(t), "120", "3 3", api.OK},
		{example(t), "120", "5 100", api.OK},
		{example(t), "121", "0 100", api.ErrProof},
		{example(t), "-1", "-100 3", api.ErrProof},
		{reversed(t, example(t)), "-40", "1 1", api.OK},
		{reversed(t, example(t)), "-40", "2 3", api.ErrProof},
		{reversed(t, example(t)), "-40", "0 3", api.ErrProof},
		{reversed(t, example(t)), "-40", "2 1", api.ErrProof},
	} {
		if got := Check(c.s, at("0 0"), c.volume, ends(c.level)); got != c.want {
			t.Errorf("%s, %s: %d instead of %d", c.volume, c.level, got, c.want)
		}
	}
}

// P20.2
func TestEncloseAndCentre(t *testing.T) {
	count := 0
	each(t, bodies(t), func(s api.Solid, a api.Attitude) {
		heights := heightsOf(t, s, a)[1:6]
		for i, low := range heights {
			for _, high := range heights[i:] {
				first, second := volumeAt(t, s, a, low), volumeAt(t, s, a, high)
				if first.Cmp(second) > 0 {
					continue
				}
				volume, level := between(first, second, big.NewRat(2, 5)), api.Interval{Lo: text(low), Hi: text(high)}
				want := knownSpot(t, s, a, volume, level, big.NewRat(1, 1))
				if got, e := Enclose(s, a, text(volume), level); e != api.OK || got != want {
					t.Errorf("%v at %v, %v, %v: the moments %v instead of %v, %d", s, a, volume, level, got, want, e)
				}
				if volume.Sign() == 0 {
					continue
				}
				count++
				want = knownSpot(t, s, a, volume, level, volume)
				if got, e := Centre(s, a, text(volume), level); e != api.OK || got != want {
					t.Errorf("%v at %v, %v, %v: the centre %v instead of %v, %d", s, a, volume, level, got, want, e)
				}
			}
		}
	})
	if count < 300 {
		t.Errorf("only %d centres", count)
	}
}

// P20.2: at a level that is exact the centre is that of the part in the water, also of a negative volume, where both ends would change places.
func TestExactCentres(t *testing.T) {
	inside := append(reversed(t, example(t)), box(t, "0 -2 5", "4 2 6")...)
	for _, c := range []struct {
		s      api.Solid
		a      string
		volume api.Rat
		level  string
		want   string
	}{
		{example(t), "0 0", "40", "1 1", "5 5 0 0 1/2 1/2"},
		{reversed(t, example(t)), "0 0", "-40", "1 1", "5 5 0 0 1/2 1/2"},
		{inside, "0 0", "-112", "3 6", "65/14 75/14 -1/7 1/7 33/28 39/28"},
	} {
		if got, e := Centre(c.s, at(c.a), c.volume, ends(c.level)); e != api.OK || got != spot(c.want) {
			t.Errorf("%s, %s: %v instead of %s, %d", c.volume, c.level, got, c.want, e)
		}
	}
}

// P20.3
func TestMark(t *testing.T) {
	for _, c := range []struct{ a, d, x, y, z string }{
		{"0 0", "7/3", "5", "-9", "7/3"},
		{"1/2 0", "1", "100", "5/4", "10/3"},
		{"1/2 0", "1", "-7", "0", "5/3"},
		{"0 1/2", "0", "3", "1", "4"},
		{"0 -1/2", "3", "3", "1000000000000000000000", "1"},
		{"-1/3 1/3", "0", "0", "0", "0"},
	} {
		if got, e := Mark(at(c.a), api.Rat(c.d), api.Rat(c.x), api.Rat(c.y)); e != api.OK || got != api.Rat(c.z) {
			t.Errorf("%v: %s, %d", c, got, e)
		}
	}
	for _, a := range attitudes() {
		for _, l := range [][3]api.Rat{{"0", "0", "0"}, {"1", "-2/3", "5"}, {"-123456789/1000", "7", "1/1000003"}, {"3/7", "100000000000000000001", "-8"}} {
			z, e := Mark(a, l[0], l[1], l[2])
			if a.Heel == "1" || a.Heel == "-1" {
				if e != api.ErrZero || z != "" {
					t.Errorf("%v, %v: %s, %d", a, l, z, e)
				}
				continue
			}
			if e != api.OK || need[api.Vector](t)(attitude.Turn(a, api.Vector{X: l[1], Y: l[2], Z: z})).Z != l[0] {
				t.Errorf("%v, %v: %s, %d", a, l, z, e)
			}
		}
	}
}

// P20.4: for convex solids the enclosures of a finer bracket are within those of a coarser one, and a centre that is exact is within all of them.
func TestFinerBrackets(t *testing.T) {
	each(t, convexBodies(t), func(s api.Solid, a api.Attitude) {
		for _, d := range heightsOf(t, s, a)[2:5] {
			volume := text(volumeAt(t, s, a, d))
			moments := need[api.Vector](t)(attitude.Turn(a, need[api.Vector](t)(float.Moments(s, a, text(d)))))
			centre := need[api.Vector](t)(attitude.Turn(a, need[api.Vector](t)(float.Centre(s, a, text(d)))))
			before := [2]api.Spot{}
			for k := range 9 {
				level := need[api.Interval](t)(Level(s, a, volume, k))
				now := [2]api.Spot{need[api.Spot](t)(Enclose(s, a, volume, level)), need[api.Spot](t)(Centre(s, a, volume, level))}
				for i, exact := range []api.Vector{moments, centre} {
					alone := api.Spot{Ahead: api.Interval{Lo: exact.X, Hi: exact.X}, Side: api.Interval{Lo: exact.Y, Hi: exact.Y}, Up: api.Interval{Lo: exact.Z, Hi: exact.Z}}
					if !isSpotWithin(alone, now[i]) || k > 0 && !isSpotWithin(now[i], before[i]) {
						t.Errorf("%v at %v, %s, %d halvings: %v, %v, %v", s, a, volume, k, exact, now[i], before[i])
					}
				}
				before = now
			}
		}
	})
}
