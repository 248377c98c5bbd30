package particulars

import (
	"math/big"
	"math/rand"
	"testing"

	"garboard/api"
	"garboard/attitude"
	"garboard/float"
	"garboard/mesh"
)

// P18.1: the chapter's example, and others that are computed by hand.
func TestKnownParticulars(t *testing.T) {
	for _, c := range []struct {
		s       api.Solid
		a, d    string
		numbers string
	}{
		{box(t, "0 -2 0", "10 2 3"), "0 0", "1", "40 5 0 1/2 40 5 0 1000/3 160/3 0"},
		{box(t, "0 -2 0", "10 2 3"), "1/2 0", "1", "255/4 5 57/68 21/17 75/2 5 9/8 625/2 5625/128 0"},
		{box(t, "0 -2 0", "10 2 3"), "-1/2 0", "1", "255/4 5 -57/68 21/17 75/2 5 -9/8 625/2 5625/128 0"},
		{box(t, "0 -2 0", "10 2 3"), "0 1/2", "0", "213/2 1573/284 0 102/71 15 15/8 0 1125/64 20 0"},
		{prism(t, "0 0 0, 3 0 0, 0 3 0", "0 0 2"), "0 0", "1", "9/2 1 1 1/2 9/2 1 1 9/4 9/4 -9/8"},
		{prism(t, "0 0 0, 0 3 0, -3 0 0", "0 0 2"), "0 0", "2/3", "3 -1 1 1/3 9/2 -1 1 9/4 9/4 9/8"},
	} {
		if got, e := Of(c.s, at(c.a), api.Rat(c.d)); e != api.OK || got != hydro(c.numbers) {
			t.Errorf("%s, %s: %v instead of %s, %d", c.a, c.d, got, c.numbers, e)
		}
	}
}

// The chapter's examples.
func TestExamples(t *testing.T) {
	h := need[api.Hydro](t)(Of(box(t, "0 -2 0", "10 2 3"), at("0 0"), "1"))
	if across, along, e := Radii(h); e != api.OK || across != "4/3" || along != "25/3" {
		t.Errorf("the radii %s and %s, %d", across, along, e)
	}
	if across, along, e := Metacentric(h, at("0 0"), point("5 0 1")); e != api.OK || across != "5/6" || along != "47/6" {
		t.Errorf("the heights %s and %s, %d", across, along, e)
	}
	if got, e := Immersion(h, "1"); e != api.OK || got != "40" {
		t.Errorf("the immersion %s, %d", got, e)
	}
	if got, e := Sinkage(h, "1", "10"); e != api.OK || got != "1/4" {
		t.Errorf("it sinks by %s, %d", got, e)
	}
	if got, e := Sinkage(h, "41/40", "-41"); e != api.OK || got != "-1" {
		t.Errorf("it rises by %s, %d", got, e)
	}
	if got, e := Change(h, at("0 0"), point("5 0 1"), "41/40", "10"); e != api.OK || got != "1927/60" {
		t.Errorf("the moment %s, %d", got, e)
	}
}

// P18.1: the second moments are those of a hull that is moved along the water until the centre of flotation is at 0.
func TestOf(t *testing.T) {
	mixed := 0
	each(t, hulls(t), func(s api.Solid, a api.Attitude, d api.Rat, h api.Hydro) {
		volume, centre := need[api.Rat](t)(float.Volume(s, a, d)), need[api.Vector](t)(float.Centre(s, a, d))
		if h.Volume != volume || h.Centre != centre {
			t.Errorf("%v at %v, %s: %v instead of %s, %v", s, a, d, h, volume, centre)
		}
		back := need[api.Vector](t)(attitude.Back(a, api.Vector{X: text(negative(rat(h.Ahead))), Y: text(negative(rat(h.Side))), Z: "0"}))
		plane := need[api.Area](t)(float.Waterplane(need[api.Solid](t)(mesh.Move(s, back)), a, d))
		if plane != (api.Area{Area: h.Area, A: "0", B: "0", AA: h.Along, BB: h.Across, AB: h.Mixed}) {
			t.Errorf("%v at %v, %s: about its centre the waterplane has %v instead of %v", s, a, d, plane, h)
		}
		if h.Mixed != "0" {
			mixed++
		}
	})
	if mixed < 50 {
		t.Errorf("only %d waterplanes have a mixed moment", mixed)
	}
}

// P18.2
func TestRadiiAndHeights(t *testing.T) {
	source := rand.New(rand.NewSource(1))
	for range 100 {
		h, g := randomHydro(source), api.Vector{X: random(source), Y: random(source), Z: random(source)}
		across, along := quotient(rat(h.Across), rat(h.Volume)), quotient(rat(h.Along), rat(h.Volume))
		if first, second, e := Radii(h); e != api.OK || first != text(across) || second != text(along) {
			t.Errorf("%v: the radii %s and %s, %d", h, first, second, e)
		}
		for _, a := range attitudes() {
			up := values(need[api.Frame](t)(attitude.Of(a)).Up)
			height := dot(up, values(added(h.Centre, g, big.NewRat(-1, 1))))
			if first, second, e := Metacentric(h, a, g); e != api.OK || first != text(sum(across, height)) || second != text(sum(along, height)) {
				t.Errorf("%v at %v above %v: the heights %s and %s, %d", h, a, g, first, second, e)
			}
		}
	}
}

// P18.3
func TestImmersionSinkageAndChange(t *testing.T) {
	source := rand.New(rand.NewSource(2))
	for range 100 {
		h, g, mass := randomHydro(source), api.Vector{X: random(source), Y: random(source), Z: random(source)}, random(source)
		immersion := product(big.NewRat(41, 40), rat(h.Area))
		if got, e := Immersion(h, "41/40"); e != api.OK || got != text(immersion) {
			t.Errorf("%v: the immersion %s, %d", h, got, e)
		}
		if got, e := Sinkage(h, "41/40", mass); e != api.OK || got != text(quotient(rat(mass), immersion)) {
			t.Errorf("%v: %s sinks it by %s, %d", h, mass, got, e)
		}
		for _, a := range attitudes() {
			up := values(need[api.Frame](t)(attitude.Of(a)).Up)
			along := sum(quotient(rat(h.Along), rat(h.Volume)), dot(up, values(h.Centre)), negative(dot(up, values(g))))
			want := quotient(product(big.NewRat(41, 40), rat(h.Volume), along), big.NewRat(200, 3))
			if got, e := Change(h, a, g, "41/40", "200/3"); e != api.OK || got != text(want) {
				t.Errorf("%v at %v above %v: the moment %s instead of %v, %d", h, a, g, got, want, e)
			}
		}
	}
}

// P18.2, P18.3: the area counts for the immersion alone, and the volume for what depends on it.
func TestNoVolumeOrNoArea(t *testing.T) {
	h := hydro("7 1 2 3 0 0 0 5 6 1")
	if across, along, e := Radii(h); e != api.OK || across != "6/7" || along != "5/7" {
		t.Errorf("the radii %s and %s, %d", across, along, e)
	}
	if got, e := Immersion(h, "2"); e != api.OK || got != "0" {
		t.Errorf("the immersion %s, %d", got, e)
	}
	h = hydro("0 0 0 0 8 0 0 5 6 1")
	if got, e := Immersion(h, "1/2"); e != api.OK || got != "4" {
		t.Errorf("the immersion %s, %d", got, e)
	}
	if got, e := Sinkage(h, "1/2", "0"); e != api.OK || got != "0" {
		t.Errorf("it sinks by %s, %d", got, e)
	}
}

// P18.4: a solid and a level that are moved together.
func TestMovedHulls(t *testing.T) {
	source := rand.New(rand.NewSource(3))
	each(t, hulls(t), func(s api.Solid, a api.Attitude, d api.Rat, h api.Hydro) {
		v := api.Vector{X: "-7/3", Y: text(big.NewRat(source.Int63n(100), 7)), Z: text(big.NewRat(source.Int63n(100), 11))}
		way := need[api.Vector](t)(attitude.Turn(a, v))
		want := h
		want.Centre = added(h.Centre, v, big.NewRat(1, 1))
		want.Ahead, want.Side = text(sum(rat(h.Ahead), rat(way.X))), text(sum(rat(h.Side), rat(way.Y)))
		level := text(sum(rat(d), rat(way.Z)))
		if got, e := Of(need[api.Solid](t)(mesh.Move(s, v)), a, level); e != api.OK || got != want {
			t.Errorf("%v at %v, %s, moved by %v: %v instead of %v, %d", s, a, d, v, got, want, e)
		}
	})
}

// P18.4: a solid that is enlarged by a factor.
func TestEnlargedHulls(t *testing.T) {
	each(t, hulls(t), func(s api.Solid, a api.Attitude, d api.Rat, h api.Hydro) {
		factor := big.NewRat(5, 3)
		power := func(x api.Rat, n int) api.Rat {
			out := rat(x)
			for range n {
				out = product(out, factor)
			}
			return text(out)
		}
		var enlarged api.Solid
		for _, triangle := range s {
			for i, r := range triangle {
				triangle[i] = api.Vector{X: power(r.X, 1), Y: power(r.Y, 1), Z: power(r.Z, 1)}
			}
			enlarged = append(enlarged, triangle)
		}
		want := h
		for i, field := range fields(&want) {
			*field = power(*field, []int{3, 1, 1, 1, 2, 1, 1, 4, 4, 4}[i])
		}
		if got, e := Of(enlarged, a, power(d, 1)); e != api.OK || got != want {
			t.Errorf("%v at %v, %s, enlarged: %v instead of %v, %d", s, a, d, got, want, e)
		}
	})
}

// P18.4: the second moments of convex hulls.
func TestConvexHulls(t *testing.T) {
	each(t, convexHulls(t), func(s api.Solid, a api.Attitude, d api.Rat, h api.Hydro) {
		along, across, mixed := rat(h.Along), rat(h.Across), rat(h.Mixed)
		if along.Sign() <= 0 || across.Sign() <= 0 || product(mixed, mixed).Cmp(product(along, across)) > 0 {
			t.Errorf("%v at %v, %s: %v", s, a, d, h)
		}
	})
}

// P18.4: raising the centre of gravity lowers both metacentric heights by the same amount.
func TestRaisedCentres(t *testing.T) {
	each(t, hulls(t), func(s api.Solid, a api.Attitude, d api.Rat, h api.Hydro) {
		g := point("1 -1/2 7/3")
		raised := added(g, need[api.Frame](t)(attitude.Of(a)).Up, big.NewRat(3, 7))
		across, along, e := Metacentric(h, a, g)
		first, second, f := Metacentric(h, a, raised)
		if e != api.OK || f != api.OK || sum(rat(across), big.NewRat(-3, 7)).Cmp(rat(first)) != 0 || sum(rat(along), big.NewRat(-3, 7)).Cmp(rat(second)) != 0 {
			t.Errorf("%v at %v: %s and %s become %s and %s, %d, %d", h, a, across, along, first, second, e, f)
		}
	})
}
