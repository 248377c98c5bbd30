package liquid

import (
	"math/big"
	"testing"

	"garboard/api"
	"garboard/attitude"
	"garboard/tank"
)

// The chapter's examples.
func TestExamples(t *testing.T) {
	if got := need[api.Interval](t)(Level(example(t), at("0 0"), "36", 2)); got != ends("3/4 3/2") {
		t.Errorf("the level %v", got)
	}
	if got := need[api.Interval](t)(Level(example(t), at("0 0"), "108", 2)); got != ends("3 3") {
		t.Errorf("the level of the full tank %v", got)
	}
	if got := need[api.Spot](t)(Centre(example(t), at("0 0"), "108", 2)); got != spot("5 5 0 0 3/2 3/2") {
		t.Errorf("the centre of the full tank %v", got)
	}
	if got := need[api.Spot](t)(Turned(spot("0 1 0 1 0 1"), at("1/2 0"))); got != spot("0 1 0 7/5 -4/5 3/5") {
		t.Errorf("the turned enclosure %v", got)
	}
}

// P23.1
func TestLevel(t *testing.T) {
	each(t, tanks(t), func(x api.Tank, a api.Attitude) {
		for i, part := range parts() {
			volume := partOf(t, x, part)
			for _, k := range []int{0, 1, 3 + i} {
				want := knownLevel(t, x, a, volume, k)
				if got := need[api.Interval](t)(Level(x, a, volume, k)); got != want {
					t.Errorf("%v at %v, %s, %d halvings: %v instead of %v", x, a, volume, k, got, want)
				}
			}
		}
	})
}

// P23.1: with the most halvings.
func TestMostHalvings(t *testing.T) {
	for i, x := range convexTanks(t)[:3] {
		a, volume := attitudes()[3+i], partOf(t, x, big.NewRat(3, 7))
		want := knownLevel(t, x, a, volume, api.MaxHalvings)
		if got := need[api.Interval](t)(Level(x, a, volume, api.MaxHalvings)); got != want {
			t.Errorf("%v at %v: %v instead of %v", x, a, got, want)
		}
	}
}

// P23.1: the levels of a tank that is full, and of one that is empty, are exact, however many halvings there are; just beside them they are brackets.
func TestFullAndEmpty(t *testing.T) {
	each(t, tanks(t), func(x api.Tank, a api.Attitude) {
		up := need[api.Spot](t)(attitude.Extent(x.Space, a)).Up
		for _, k := range []int{0, 1, 5, api.MaxHalvings} {
			if got := need[api.Interval](t)(Level(x, a, partOf(t, x, big.NewRat(1, 1)), k)); got != (api.Interval{Lo: up.Hi, Hi: up.Hi}) {
				t.Errorf("%v at %v, full: %v instead of %s", x, a, got, up.Hi)
			}
			if got := need[api.Interval](t)(Level(x, a, "0", k)); got != (api.Interval{Lo: up.Lo, Hi: up.Lo}) {
				t.Errorf("%v at %v, empty: %v instead of %s", x, a, got, up.Lo)
			}
		}
		for _, part := range []*big.Rat{big.NewRat(1, 1000000000000), big.NewRat(999999999999, 1000000000000)} {
			if got := need[api.Interval](t)(Level(x, a, partOf(t, x, part), 0)); got != up {
				t.Errorf("%v at %v, %v: %v instead of %v", x, a, part, got, up)
			}
		}
	})
}

// P23.2
func TestCentre(t *testing.T) {
	each(t, tanks(t), func(x api.Tank, a api.Attitude) {
		for i, part := range append(parts(), big.NewRat(1, 1)) {
			volume := partOf(t, x, part)
			for _, k := range []int{0, 2, 3 + i} {
				level := need[api.Interval](t)(Level(x, a, volume, k))
				want := knownCentre(t, x, a, volume, level)
				if got := need[api.Spot](t)(Centre(x, a, volume, k)); got != want {
					t.Errorf("%v at %v, %s, %d halvings: %v instead of %v", x, a, volume, k, got, want)
				}
			}
		}
	})
}

// enclosures are such of many signs, wide ones, and exact ones.
func enclosures() []api.Spot {
	return []api.Spot{
		spot("0 0 0 0 0 0"), spot("0 1 0 1 0 1"), spot("-1 0 -1 0 -1 0"), spot("-1 2 -3 4 -5 6"), spot("7 7 -5 -5 1/3 1/3"),
		spot("1 2 3 5 8 13"), spot("-2 -1 -5 -3 -13 -8"), spot("1 2 -5 -3 0 1/7"),
		spot("-1/1000000007 0 5 5 -100000000000000000000/49 -7/3"),
	}
}

// P23.2: of all corners of an enclosure, one has the least value, and one the greatest.
func TestTurned(t *testing.T) {
	for _, x := range enclosures() {
		for _, a := range attitudes() {
			want := knownTurned(t, x, a)
			if got := need[api.Spot](t)(Turned(x, a)); got != want {
				t.Errorf("%v at %v: %v instead of %v", x, a, got, want)
			}
		}
		if got := need[api.Spot](t)(Turned(x, at("0 0"))); got != x {
			t.Errorf("%v upright: %v", x, got)
		}
	}
}

// P23.2: points of an enclosure are turned to points of the turned one.
func TestTurnedPoints(t *testing.T) {
	x := spot("-1 2 -3 4 -5 6")
	for _, a := range attitudes() {
		turned := need[api.Spot](t)(Turned(x, a))
		for _, r := range points("0 0 0, -1 4 -5, 2 -3 6, 1/2 1/3 -1/7, 2 4 6, -1 -3 -5") {
			p := need[api.Vector](t)(attitude.Turn(a, r))
			exact := api.Spot{Ahead: api.Interval{Lo: p.X, Hi: p.X}, Side: api.Interval{Lo: p.Y, Hi: p.Y}, Up: api.Interval{Lo: p.Z, Hi: p.Z}}
			if !isSpotWithin(exact, turned) {
				t.Errorf("%v at %v: %v is not within %v", r, a, p, turned)
			}
			if got := need[api.Spot](t)(Turned(api.Spot{Ahead: api.Interval{Lo: r.X, Hi: r.X}, Side: api.Interval{Lo: r.Y, Hi: r.Y}, Up: api.Interval{Lo: r.Z, Hi: r.Z}}, a)); got != exact {
				t.Errorf("%v at %v: %v instead of %v", r, a, got, exact)
			}
		}
	}
}

// P23.2: a liquid that is frozen stays where it was when the ship was upright.
func TestFrozen(t *testing.T) {
	each(t, tanks(t), func(x api.Tank, a api.Attitude) {
		for i, part := range append(parts(), big.NewRat(1, 1)) {
			volume, k := partOf(t, x, part), 2*i
			level := knownLevel(t, x, at("0 0"), volume, k)
			want := knownTurned(t, knownCentre(t, x, at("0 0"), volume, level), a)
			if got := need[api.Spot](t)(Frozen(x, a, volume, k)); got != want {
				t.Errorf("%v at %v, %s, %d halvings: %v instead of %v", x, a, volume, k, got, want)
			}
			if got := need[api.Spot](t)(Frozen(x, at("0 0"), volume, k)); got != need[api.Spot](t)(Centre(x, at("0 0"), volume, k)) {
				t.Errorf("%v upright, %s, %d halvings: %v", x, volume, k, got)
			}
		}
	})
}

// P23.2: half of the example's tank, heeled until its bottom is upright.
func TestHalfTank(t *testing.T) {
	if got := need[api.Spot](t)(Frozen(example(t), at("1 0"), "54", 1)); got != spot("5 5 3/4 3/4 0 0") {
		t.Errorf("frozen: %v", got)
	}
	if got := need[api.Spot](t)(Centre(example(t), at("1 0"), "54", 1)); got != spot("5 5 3/2 3/2 -1 -1") {
		t.Errorf("not frozen: %v", got)
	}
	if got := need[api.Interval](t)(Level(example(t), at("1 0"), "54", 1)); got != ends("0 2") {
		t.Errorf("the level %v", got)
	}
}

// P23.3: the volumes of the tank at both ends of a level.
func TestVolumesAtLevels(t *testing.T) {
	each(t, tanks(t), func(x api.Tank, a api.Attitude) {
		for i, part := range append(parts(), new(big.Rat), big.NewRat(1, 1)) {
			volume := partOf(t, x, part)
			level := need[api.Interval](t)(Level(x, a, volume, i))
			low, high := volumeAt(t, x, a, rat(level.Lo)), volumeAt(t, x, a, rat(level.Hi))
			if low.Cmp(rat(volume)) > 0 || high.Cmp(rat(volume)) < 0 {
				t.Errorf("%v at %v: %v and %v at %v, with %s", x, a, low, high, level, volume)
			}
		}
	})
}

// P23.3: in a convex tank more halvings make enclosures that are within those before.
func TestMoreHalvings(t *testing.T) {
	each(t, convexTanks(t), func(x api.Tank, a api.Attitude) {
		for _, part := range parts() {
			volume := partOf(t, x, part)
			level, moves, stays := need[api.Interval](t)(Level(x, a, volume, 0)), need[api.Spot](t)(Centre(x, a, volume, 0)), need[api.Spot](t)(Frozen(x, a, volume, 0))
			for k := 1; k < 5; k++ {
				l, c, f := need[api.Interval](t)(Level(x, a, volume, k)), need[api.Spot](t)(Centre(x, a, volume, k)), need[api.Spot](t)(Frozen(x, a, volume, k))
				if !isWithin(l, level) || !isSpotWithin(c, moves) || !isSpotWithin(f, stays) {
					t.Errorf("%v at %v, %s, %d halvings: %v, %v and %v are not within %v, %v and %v", x, a, volume, k, l, c, f, level, moves, stays)
				}
				level, moves, stays = l, c, f
			}
		}
	})
}

// P23.3: liquid in a convex tank never stands higher than frozen one.
func TestHeights(t *testing.T) {
	each(t, convexTanks(t), func(x api.Tank, a api.Attitude) {
		for _, part := range append(parts(), big.NewRat(1, 2)) {
			volume := partOf(t, x, part)
			for _, k := range []int{0, 3, 9} {
				moves, stays := need[api.Spot](t)(Centre(x, a, volume, k)), need[api.Spot](t)(Frozen(x, a, volume, k))
				if rat(moves.Up.Lo).Cmp(rat(stays.Up.Hi)) > 0 {
					t.Errorf("%v at %v, %s: %v is higher than %v", x, a, volume, moves.Up, stays.Up)
				}
			}
		}
	})
}

// P23.3: if the tank is full, both centres are exact and equal.
func TestCentresOfFullTanks(t *testing.T) {
	each(t, tanks(t), func(x api.Tank, a api.Attitude) {
		capacity := need[api.Rat](t)(tank.Capacity(x))
		for _, k := range []int{0, 3} {
			moves, stays := need[api.Spot](t)(Centre(x, a, capacity, k)), need[api.Spot](t)(Frozen(x, a, capacity, k))
			if moves != stays || moves.Ahead.Lo != moves.Ahead.Hi || moves.Side.Lo != moves.Side.Hi || moves.Up.Lo != moves.Up.Hi {
				t.Errorf("%v at %v: %v and %v", x, a, moves, stays)
			}
		}
	})
}

// P23.1, P23.2: the permeability alone says how much of the space a volume fills; the density says nothing.
func TestPermeability(t *testing.T) {
	x, y := example(t), example(t)
	x.Permeability, y.Permeability, y.Density = "1", "1/4", "7/3"
	for _, a := range attitudes() {
		for _, volume := range []string{"1", "20", "29", "30"} {
			more := text(product(rat(api.Rat(volume)), big.NewRat(4, 1)))
			if l, m := need[api.Interval](t)(Level(y, a, api.Rat(volume), 5)), need[api.Interval](t)(Level(x, a, more, 5)); l != m {
				t.Errorf("%v: the levels %v and %v", a, l, m)
			}
			if c, d := need[api.Spot](t)(Centre(y, a, api.Rat(volume), 5)), need[api.Spot](t)(Centre(x, a, more, 5)); c != d {
				t.Errorf("%v: the centres %v and %v", a, c, d)
			}
		}
	}
}
