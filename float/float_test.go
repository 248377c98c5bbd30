package float

import (
	"math/big"
	"math/rand"
	"slices"
	"testing"

	"garboard/api"
	"garboard/mass"
	"garboard/mesh"
)

// P17.1, P17.2, P17.3: the chapter's examples, the section of layer 19 at the heel 1/2, and others that are computed by hand.
func TestBoxes(t *testing.T) {
	for _, c := range []struct {
		a, d, volume, emerged, moments, centre, plane string
	}{
		{"0 0", "1", "40", "80", "200 0 20", "5 0 1/2", "40 200 0 4000/3 160/3 0"},
		{"0 0", "0", "0", "120", "0 0 0", "", "40 200 0 4000/3 160/3 0"},
		{"0 0", "-1", "0", "120", "0 0 0", "", "0 0 0 0 0 0"},
		{"0 0", "3", "120", "0", "600 0 180", "5 0 3/2", "0 0 0 0 0 0"},
		{"0 0", "100", "120", "0", "600 0 180", "5 0 3/2", "0 0 0 0 0 0"},
		{"1/2 0", "1", "255/4", "225/4", "1275/4 855/16 315/4", "5 57/68 21/17", "75/2 375/2 675/16 1250 2925/32 3375/16"},
		{"-1/2 0", "1", "255/4", "225/4", "1275/4 -855/16 315/4", "5 -57/68 21/17", "75/2 375/2 -675/16 1250 2925/32 -3375/16"},
		{"0 1/2", "0", "213/2", "27/2", "4719/8 0 153", "1573/284 0 102/71", "15 225/8 0 1125/16 20 0"},
		{"1 0", "1", "90", "30", "450 45 135", "5 1/2 3/2", "30 150 45 1000 90 225"},
		{"-1 0", "1", "90", "30", "450 -45 135", "5 -1/2 3/2", "30 150 -45 1000 90 -225"},
	} {
		s, a, d := example(t), at(c.a), api.Rat(c.d)
		if got, e := Volume(s, a, d); e != api.OK || got != api.Rat(c.volume) {
			t.Errorf("%v: the volume %s, %d", c, got, e)
		}
		if got, e := Emerged(s, a, d); e != api.OK || got != api.Rat(c.emerged) {
			t.Errorf("%v: emerged are %s, %d", c, got, e)
		}
		if got, e := Moments(s, a, d); e != api.OK || got != point(c.moments) {
			t.Errorf("%v: the moments %v, %d", c, got, e)
		}
		if got, e := Waterplane(s, a, d); e != api.OK || got != area(c.plane) {
			t.Errorf("%v: the waterplane %v, %d", c, got, e)
		}
		got, e := Centre(s, a, d)
		if c.centre == "" {
			expect(t, c, api.ErrZero, place(got, e))
		} else if e != api.OK || got != point(c.centre) {
			t.Errorf("%v: the centre %v, %d", c, got, e)
		}
	}
}

// P17.3: points in the plane count as below, so a face in the plane of the water belongs to the part in the water, and the cap is what lies just above.
func TestFacesInTheWaterplane(t *testing.T) {
	back := need[api.Solid](t)(mesh.Reverse(example(t)))
	for _, c := range []struct {
		s             api.Solid
		d             api.Rat
		volume, plane string
	}{
		{stepped(t), "1/2", "20", "40 200 0 4000/3 160/3 0"},
		{stepped(t), "1", "40", "12 18 0 36 16 0"},
		{overhanging(t), "1/2", "6", "12 18 0 36 16 0"},
		{overhanging(t), "1", "12", "40 200 0 4000/3 160/3 0"},
		{back, "0", "0", "-40 -200 0 -4000/3 -160/3 0"},
		{back, "1", "-40", "-40 -200 0 -4000/3 -160/3 0"},
		{back, "3", "-120", "0 0 0 0 0 0"},
	} {
		if got, e := Volume(c.s, at("0 0"), c.d); e != api.OK || got != api.Rat(c.volume) {
			t.Errorf("%s: the volume %s instead of %s, %d", c.d, got, c.volume, e)
		}
		if got, e := Waterplane(c.s, at("0 0"), c.d); e != api.OK || got != area(c.plane) {
			t.Errorf("%s: the waterplane %v instead of %s, %d", c.d, got, c.plane, e)
		}
	}
}

// P17.1
func TestVolumes(t *testing.T) {
	each(t, bodies(t), func(s api.Solid, a api.Attitude, d api.Rat) {
		want := text(knownOf(t, s, a, d, -1).volume)
		if got, e := Volume(s, a, d); e != api.OK || got != want {
			t.Errorf("%v at %v, %s: the volume %s instead of %s, %d", s, a, d, got, want, e)
		}
		want = text(knownOf(t, s, a, d, 1).volume)
		if got, e := Emerged(s, a, d); e != api.OK || got != want {
			t.Errorf("%v at %v, %s: emerged are %s instead of %s, %d", s, a, d, got, want, e)
		}
	})
}

// P17.2
func TestMoments(t *testing.T) {
	zeros := 0
	each(t, bodies(t), func(s api.Solid, a api.Attitude, d api.Rat) {
		want := knownOf(t, s, a, d, -1)
		if got, e := Moments(s, a, d); e != api.OK || got != made(want.moment) {
			t.Errorf("%v at %v, %s: the moments %v instead of %v, %d", s, a, d, got, want.moment, e)
		}
		got, e := Centre(s, a, d)
		if want.volume.Sign() == 0 {
			expect(t, s, api.ErrZero, place(got, e))
			zeros++
		} else if e != api.OK || got != want.centre() {
			t.Errorf("%v at %v, %s: the centre %v instead of %v, %d", s, a, d, got, want.centre(), e)
		}
	})
	if zeros < 50 {
		t.Errorf("only %d parts have no volume", zeros)
	}
}

// P17.3
func TestWaterplanes(t *testing.T) {
	each(t, bodies(t), func(s api.Solid, a api.Attitude, d api.Rat) {
		want := knownOf(t, s, a, d, -1).area()
		if got, e := Waterplane(s, a, d); e != api.OK || got != want {
			t.Errorf("%v at %v, %s: the waterplane %v instead of %v, %d", s, a, d, got, want, e)
		}
	})
}

// P17.1 to P17.3: the solid may have as many triangles as the limit allows, and its part in the water still more.
func TestManyTriangles(t *testing.T) {
	var fleet api.Solid
	for i := range int64(42) {
		low, high := numbers{big.NewRat(i, 1), big.NewRat(-1, 1), big.NewRat(-i, 3)}, numbers{big.NewRat(2*i+1, 2), big.NewRat(i, 5), big.NewRat(i+1, 2)}
		fleet = append(fleet, need[api.Solid](t)(mesh.Box(made(low), made(high)))...)
	}
	o := point("0 0 0")
	fleet = append(fleet, slices.Repeat(api.Solid{{o, o, o}}, api.MaxTriangles-len(fleet))...)
	for _, a := range []api.Attitude{at("0 0"), at("1/3 -1/3")} {
		want := knownOf(t, fleet, a, "1/4", -1)
		if got, e := Volume(fleet, a, "1/4"); e != api.OK || got != text(want.volume) {
			t.Errorf("%v: the volume %s instead of %v, %d", a, got, want.volume, e)
		}
		if got, e := Emerged(fleet, a, "1/4"); e != api.OK || got != text(knownOf(t, fleet, a, "1/4", 1).volume) {
			t.Errorf("%v: emerged are %s, %d", a, got, e)
		}
		if got, e := Moments(fleet, a, "1/4"); e != api.OK || got != made(want.moment) {
			t.Errorf("%v: the moments %v instead of %v, %d", a, got, want.moment, e)
		}
		if got, e := Centre(fleet, a, "1/4"); e != api.OK || got != want.centre() {
			t.Errorf("%v: the centre %v instead of %v, %d", a, got, want.centre(), e)
		}
		if got, e := Waterplane(fleet, a, "1/4"); e != api.OK || got != want.area() {
			t.Errorf("%v: the waterplane %v instead of %v, %d", a, got, want.area(), e)
		}
	}
}

// P17.4: both volumes add up to that of the solid.
func TestBothVolumes(t *testing.T) {
	each(t, bodies(t), func(s api.Solid, a api.Attitude, d api.Rat) {
		below, above := need[api.Rat](t)(Volume(s, a, d)), need[api.Rat](t)(Emerged(s, a, d))
		if whole := need[api.Rat](t)(mass.Volume(s)); text(sum(rat(below), rat(above))) != whole {
			t.Errorf("%v at %v, %s: %s and %s are not %s", s, a, d, below, above, whole)
		}
	})
}

// divided divides each triangle into four, by the middles of its edges.
func divided(s api.Solid) api.Solid {
	middle := func(p, q api.Vector) api.Vector {
		var out numbers
		for i := range out {
			out[i] = between(values(p)[i], values(q)[i], big.NewRat(1, 2))
		}
		return made(out)
	}
	var out api.Solid
	for _, t := range s {
		a, b, c := middle(t[0], t[1]), middle(t[1], t[2]), middle(t[2], t[0])
		out = append(out, api.Triangle{t[0], a, c}, api.Triangle{t[1], b, a}, api.Triangle{t[2], c, b}, api.Triangle{a, b, c})
	}
	return out
}

// P17.4: the order and the division of triangles do not matter.
func TestOtherTriangles(t *testing.T) {
	source := rand.New(rand.NewSource(2))
	for i, s := range bodies(t) {
		other := divided(s)
		source.Shuffle(len(other), func(i, k int) { other[i], other[k] = other[k], other[i] })
		for i, triangle := range other {
			k := source.Intn(3)
			other[i] = api.Triangle{triangle[k], triangle[(k+1)%3], triangle[(k+2)%3]}
		}
		a := attitudes()[i%len(attitudes())]
		for _, d := range levels(t, s, a)[4:7] {
			if before, again := askAll(s, a, d), askAll(other, a, d); !slices.Equal(before, again) {
				t.Errorf("%v at %v, %s: %v, with other triangles %v", s, a, d, before, again)
			}
		}
	}
}

// P17.4: with a rising level the volume grows by at least the lesser one of both waterplanes, times the rise, and so never gets smaller.
func TestRisingLevels(t *testing.T) {
	for _, s := range convexBodies(t) {
		for _, a := range attitudes() {
			l := levels(t, s, a)
			slices.SortFunc(l, func(x, y api.Rat) int { return rat(x).Cmp(rat(y)) })
			for i, d := range l[1:] {
				rise := minus(rat(d), rat(l[i]))
				grown := minus(rat(need[api.Rat](t)(Volume(s, a, d))), rat(need[api.Rat](t)(Volume(s, a, l[i]))))
				lesser := rat(need[api.Area](t)(Waterplane(s, a, l[i])).Area)
				if other := rat(need[api.Area](t)(Waterplane(s, a, d)).Area); other.Cmp(lesser) < 0 {
					lesser = other
				}
				if lesser.Sign() < 0 || grown.Cmp(product(lesser, rise)) < 0 {
					t.Errorf("%v at %v: from %s to %s it grows by %v, with the waterplane %v", s, a, l[i], d, grown, lesser)
				}
			}
		}
	}
}

// P17.4: the centre is within the extent of the solid, and in the water.
func TestCentresInTheWater(t *testing.T) {
	each(t, convexBodies(t), func(s api.Solid, a api.Attitude, d api.Rat) {
		c, e := Centre(s, a, d)
		if e == api.ErrZero {
			return
		}
		for i, n := range axes(t, a) {
			var along []*big.Rat
			for _, triangle := range s {
				along = append(along, dot(n, values(triangle[0])), dot(n, values(triangle[1])), dot(n, values(triangle[2])))
			}
			x := dot(n, values(c))
			if x.Cmp(slices.MinFunc(along, (*big.Rat).Cmp)) <= 0 || x.Cmp(slices.MaxFunc(along, (*big.Rat).Cmp)) >= 0 || i == 2 && x.Cmp(rat(d)) > 0 {
				t.Errorf("%v at %v, %s: the centre %v, %d", s, a, d, c, e)
			}
		}
	})
}

// P17.4: a mirrored solid at the opposite heel has the same volume, and its image as the centre.
func TestMirroredSolids(t *testing.T) {
	each(t, bodies(t), func(s api.Solid, a api.Attitude, d api.Rat) {
		image := need[api.Solid](t)(mesh.Mirror(s))
		opposite := api.Attitude{Heel: text(minus(new(big.Rat), rat(a.Heel))), Trim: a.Trim}
		if got, want := need[api.Rat](t)(Volume(image, opposite, d)), need[api.Rat](t)(Volume(s, a, d)); got != want {
			t.Errorf("%v at %v, %s: the image has %s instead of %s", s, a, d, got, want)
		}
		got, want := need[api.Vector](t)(Moments(image, opposite, d)), need[api.Vector](t)(Moments(s, a, d))
		got.Y = text(minus(new(big.Rat), rat(got.Y)))
		if got != want {
			t.Errorf("%v at %v, %s: the image has %v instead of %v", s, a, d, got, want)
		}
	})
}
