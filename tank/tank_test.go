package tank

import (
	"math/big"
	"slices"
	"testing"

	"garboard/api"
	"garboard/float"
)

// The chapter's examples.
func TestExamples(t *testing.T) {
	if got, e := Capacity(example(t)); e != api.OK || got != "108" {
		t.Errorf("the capacity %s, %d", got, e)
	}
	l, e := Table(example(t), numbers("0 1 3"))
	if e != api.OK || !slices.Equal(l, soundings("0:0 1:36 3:108")) {
		t.Fatalf("the table %v, %d", l, e)
	}
	if got, e := Read(l, "2"); e != api.OK || got != "72" {
		t.Errorf("the volume %s, %d", got, e)
	}
	if got, e := Height(l, "54"); e != api.OK || got != (api.Interval{Lo: "3/2", Hi: "3/2"}) {
		t.Errorf("the height %v, %d", got, e)
	}
}

// P22.1: tanks without a fault.
func TestTanksThatAreRight(t *testing.T) {
	for _, s := range spaces(t) {
		for _, share := range []api.Rat{"1", "1/1000000007", "999999999999/1000000000000"} {
			for _, density := range []api.Rat{"1/1000000007", "41/40", "100000000000000000000"} {
				x := tankOf(s)
				x.Permeability, x.Density = share, density
				if e := Check(x); e != api.OK {
					t.Errorf("%v: %d", x, e)
				}
			}
		}
	}
}

// P22.1: the volume of the space times the permeability; parts that count negatively are taken off.
func TestCapacity(t *testing.T) {
	for _, s := range spaces(t) {
		for _, share := range []api.Rat{"1", "9/10", "1/3"} {
			x := tankOf(s)
			x.Permeability = share
			want := text(product(knownVolume(s), rat(share)))
			if got, e := Capacity(x); e != api.OK || got != want {
				t.Errorf("%v: %s instead of %s, %d", x, got, want, e)
			}
		}
	}
}

// P22.1: the capacity does not depend on the density.
func TestDensity(t *testing.T) {
	x := example(t)
	x.Density = "7"
	if got, e := Capacity(x); e != api.OK || got != "108" {
		t.Errorf("%s, %d", got, e)
	}
	if got, e := Volume(x, at("0 0"), "1"); e != api.OK || got != "36" {
		t.Errorf("%s, %d", got, e)
	}
}

// P22.1: at the limit of triangles.
func TestManyTriangles(t *testing.T) {
	x := tankOf(drum(t, 129))
	want := text(product(knownVolume(x.Space), big.NewRat(9, 10)))
	if got, e := Capacity(x); e != api.OK || len(x.Space) != api.MaxTriangles || got != want {
		t.Errorf("%d triangles: %s instead of %v, %d", len(x.Space), got, want, e)
	}
	if got, e := Volume(x, at("1/3 1/7"), "100"); e != api.OK || got != want {
		t.Errorf("%s instead of %v, %d", got, want, e)
	}
}

// P22.1: the volume of the part below the level times the permeability.
func TestVolume(t *testing.T) {
	for _, s := range spaces(t) {
		x := tankOf(s)
		for _, a := range attitudes() {
			for _, d := range depthsOf(t, s, a) {
				want := text(product(rat(need[api.Rat](t)(float.Volume(s, a, d))), rat(x.Permeability)))
				if got, e := Volume(x, a, d); e != api.OK || got != want {
					t.Errorf("%v at %v, %s: %s instead of %s, %d", s, a, d, got, want, e)
				}
			}
		}
	}
}

// P22.1: levels of a box that is upright, heeled and trimmed.
func TestVolumesOfABox(t *testing.T) {
	for _, c := range []struct{ a, d, want string }{
		{"0 0", "-1", "0"}, {"0 0", "0", "0"}, {"0 0", "1/3", "12"}, {"0 0", "3", "108"}, {"0 0", "7", "108"},
		{"1 0", "0", "54"}, {"1 0", "1", "81"}, {"-1 0", "-1", "27"},
		{"1/2 0", "1", "459/8"}, {"1/2 0", "-8/5", "0"}, {"1/2 0", "17/5", "108"},
		{"0 1/2", "1", "528/5"},
	} {
		if got, e := Volume(example(t), at(c.a), api.Rat(c.d)); e != api.OK || got != api.Rat(c.want) {
			t.Errorf("%v: %s, %d", c, got, e)
		}
	}
}

// P22.2: also of no height at all, and of heights below and above the space.
func TestTable(t *testing.T) {
	for _, s := range spaces(t) {
		x := tankOf(s)
		heights := depthsOf(t, s, at("0 0"))
		for count := range len(heights) + 1 {
			var want []api.Sounding
			for _, height := range heights[:count] {
				want = append(want, api.Sounding{Height: height, Volume: need[api.Rat](t)(Volume(x, at("0 0"), height))})
			}
			if got, e := Table(x, heights[:count]); e != api.OK || !slices.Equal(got, want) {
				t.Errorf("%v, %v: %v instead of %v, %d", s, heights[:count], got, want, e)
			}
		}
	}
}

// P22.2: as long as a table can be.
func TestLongTable(t *testing.T) {
	var heights []api.Rat
	var want []api.Sounding
	for i := range api.MaxList {
		height := big.NewRat(int64(3*i), api.MaxList)
		heights = append(heights, text(height))
		want = append(want, api.Sounding{Height: text(height), Volume: text(product(height, big.NewRat(36, 1)))})
	}
	got, e := Table(example(t), heights)
	if e != api.OK || !slices.Equal(got, want) {
		t.Errorf("%v, %d", got, e)
	}
	if got, e := Read(got, "1/1000003"); e != api.OK || got != "36/1000003" {
		t.Errorf("%s, %d", got, e)
	}
}

// P22.4: the volume at a level is never greater than the capacity, and does not get smaller with the level.
func TestVolumesOfConvexTanks(t *testing.T) {
	for _, s := range convexSpaces(t) {
		x := tankOf(s)
		capacity := rat(need[api.Rat](t)(Capacity(x)))
		for _, a := range attitudes() {
			before := new(big.Rat)
			for _, d := range depthsOf(t, s, a) {
				volume := rat(need[api.Rat](t)(Volume(x, a, d)))
				if volume.Cmp(before) < 0 || volume.Cmp(capacity) > 0 {
					t.Errorf("%v at %v, %s: %v behind %v of %v", s, a, d, volume, before, capacity)
				}
				before = volume
			}
			if before.Cmp(capacity) != 0 {
				t.Errorf("%v at %v: %v instead of %v", s, a, before, capacity)
			}
		}
	}
}

// P22.4: the order of triangles, and that of their points, do not matter.
func TestOrderOfTriangles(t *testing.T) {
	for _, s := range spaces(t) {
		other := slices.Clone(s)
		slices.Reverse(other)
		for i, r := range other {
			if i%2 == 0 {
				other[i] = api.Triangle{r[1], r[2], r[0]}
			}
		}
		for _, a := range attitudes() {
			d := depthsOf(t, s, a)[3]
			if x, y := need[api.Rat](t)(Volume(tankOf(s), a, d)), need[api.Rat](t)(Volume(tankOf(other), a, d)); x != y {
				t.Errorf("%v at %v, %s: %s and %s", s, a, d, x, y)
			}
		}
		if x, y := need[api.Rat](t)(Capacity(tankOf(s))), need[api.Rat](t)(Capacity(tankOf(other))); x != y {
			t.Errorf("%v: %s and %s", s, x, y)
		}
	}
}

// P22.4: the table of a convex tank is one, and what is read of it belongs to each other.
func TestTablesOfConvexTanks(t *testing.T) {
	for _, s := range convexSpaces(t) {
		l := need[[]api.Sounding](t)(Table(tankOf(s), depthsOf(t, s, at("0 0"))))
		for i, x := range l {
			if volume, e := Read(l, x.Height); e != api.OK || volume != x.Volume {
				t.Errorf("%v: sounding %d is read as %s, %d", l, i, volume, e)
			}
			heights, e := Height(l, x.Volume)
			if e != api.OK || rat(heights.Lo).Cmp(rat(x.Height)) > 0 || rat(x.Height).Cmp(rat(heights.Hi)) > 0 {
				t.Errorf("%v: sounding %d is read at %v, %d", l, i, heights, e)
			}
		}
	}
}

// P22.4: half the permeability makes half the volume.
func TestHalfThePermeability(t *testing.T) {
	for _, s := range spaces(t) {
		whole, half := tankOf(s), tankOf(s)
		half.Permeability = "9/20"
		for _, a := range attitudes() {
			d := depthsOf(t, s, a)[4]
			if x, y := need[api.Rat](t)(Volume(whole, a, d)), need[api.Rat](t)(Volume(half, a, d)); rat(x).Cmp(sum(rat(y), rat(y))) != 0 {
				t.Errorf("%v at %v, %s: %s and %s", s, a, d, x, y)
			}
		}
	}
}

// P22.1
func TestList(t *testing.T) {
	var l []api.Tank
	for i := range api.MaxTanks {
		if e := List(l); e != api.OK {
			t.Errorf("%d tanks: %d", i, e)
		}
		x := example(t)
		x.Name = string(rune('a' + i))
		l = append(l, x)
	}
	if e := List(l); e != api.OK {
		t.Errorf("the most tanks: %d", e)
	}
	l[7].Name, l[8].Name = "A", "a.-"
	if e := List(l); e != api.OK {
		t.Errorf("names that are nearly equal: %d", e)
	}
}
