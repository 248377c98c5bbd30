package bonjean

import (
	"math/big"
	"slices"
	"strconv"
	"testing"

	"garboard/api"
	"garboard/attitude"
	"garboard/clip"
	"garboard/float"
	"garboard/mesh"
)

// The chapter's examples, and others that are computed by hand: just ahead of a face across the ship, at its last face, and beyond it.
func TestExamples(t *testing.T) {
	for _, c := range []struct {
		s    api.Solid
		a, d string
		want api.Slice
	}{
		{example(t), "0 0", "1", api.Slice{X: "5", Area: "4", Y: "0", Z: "2"}},
		{example(t), "1/2 0", "1", api.Slice{X: "5", Area: "51/8", Y: "171/32", Z: "63/8"}},
		{example(t), "0 0", "1", api.Slice{X: "0", Area: "4", Y: "0", Z: "2"}},
		{example(t), "0 0", "1", api.Slice{X: "10", Area: "0", Y: "0", Z: "0"}},
		{example(t), "0 0", "1", api.Slice{X: "-1/1000000000", Area: "0", Y: "0", Z: "0"}},
		{example(t), "0 0", "-1", api.Slice{X: "5", Area: "0", Y: "0", Z: "0"}},
		{example(t), "0 0", "100", api.Slice{X: "5", Area: "12", Y: "0", Z: "18"}},
		{example(t), "0 1/2", "0", api.Slice{X: "3/4", Area: "4", Y: "0", Z: "2"}},
		{stepped(t), "0 0", "3/2", api.Slice{X: "299/100", Area: "6", Y: "0", Z: "9/2"}},
		{stepped(t), "0 0", "3/2", api.Slice{X: "3", Area: "4", Y: "0", Z: "2"}},
	} {
		if got, e := At(c.s, at(c.a), api.Rat(c.d), c.want.X); e != api.OK || got != c.want {
			t.Errorf("%s, %s: %v instead of %v, %d", c.a, c.d, got, c.want, e)
		}
	}
	if got, e := Breaks(example(t), at("0 0"), "1"); e != api.OK || !slices.Equal(got, list("0 10/3 20/3 10")) {
		t.Errorf("the breaks %v, %d", got, e)
	}
	if volume, moment, e := Sum(example(t), at("0 0"), "1"); e != api.OK || volume != "40" || moment != "200" {
		t.Errorf("the sums %s and %s, %d", volume, moment, e)
	}
	got, e := Table(example(t), list("-1 0 5 10"), list("-1 0 1 3/2 3 4"))
	want := [][]api.Rat{list("0 0 0 0 0 0"), list("0 0 4 6 12 12"), list("0 0 4 6 12 12"), list("0 0 0 0 0 0")}
	if e != api.OK || !slices.EqualFunc(got, want, slices.Equal[[]api.Rat]) {
		t.Errorf("the table %v, %d", got, e)
	}
}

// P19.1
func TestAt(t *testing.T) {
	each(t, bodies(t), func(s api.Solid, a api.Attitude, d api.Rat) {
		for _, x := range places(s) {
			want := known(t, s, a, d, x)
			if got, e := At(s, a, d, x); e != api.OK || got != want {
				t.Errorf("%v at %v, %s: %v instead of %v, %d", s, a, d, got, want, e)
			}
		}
	})
}

// P19.1
func TestBreaks(t *testing.T) {
	each(t, bodies(t), func(s api.Solid, a api.Attitude, d api.Rat) {
		want := knownBreaks(t, s, a, d)
		if got, e := Breaks(s, a, d); e != api.OK || !slices.Equal(got, want) {
			t.Errorf("%v at %v, %s: the breaks %v instead of %v, %d", s, a, d, got, want, e)
		}
	})
}

// P19.1: edges of triangles without area are edges, and points in the plane are in the water.
func TestBreaksOfEdgesAlone(t *testing.T) {
	a, b, c := vec("1 0 -1"), vec("5/2 7 1"), vec("4 2 3")
	for _, x := range []struct {
		s    api.Solid
		d    api.Rat
		want string
	}{
		{api.Solid{{a, b, b}}, "0", "1 7/4"},
		{api.Solid{{a, a, c}, {c, b, c}}, "0", "1 7/4"},
		{api.Solid{{b, b, b}}, "1", "5/2"},
		{api.Solid{{b, b, b}}, "99/100", ""},
		{api.Solid{{c, c, b}}, "1", "5/2"},
		{api.Solid{{c, c, b}}, "3", "5/2 4"},
	} {
		if got, e := Breaks(x.s, at("0 0"), x.d); e != api.OK || !slices.Equal(got, list(x.want)) {
			t.Errorf("%v, %s: the breaks %v instead of %s, %d", x.s, x.d, got, x.want, e)
		}
		if volume, moment, e := Sum(x.s, at("0 0"), x.d); e != api.OK || volume != "0" || moment != "0" {
			t.Errorf("%v, %s: the sums %s and %s, %d", x.s, x.d, volume, moment, e)
		}
	}
}

// P19.2
func TestSum(t *testing.T) {
	each(t, bodies(t), func(s api.Solid, a api.Attitude, d api.Rat) {
		first, second := knownSums(t, s, a, d)
		if volume, moment, e := Sum(s, a, d); e != api.OK || volume != first || moment != second {
			t.Errorf("%v at %v, %s: the sums %s and %s instead of %s and %s, %d", s, a, d, volume, moment, first, second, e)
		}
	})
}

// P19.3
func TestTable(t *testing.T) {
	for _, s := range bodies(t) {
		xs, ds := increasing(places(s)), increasing(levels(t, s, at("0 0")))
		checkAreas(t, s, xs, ds)
		checkAreas(t, s, xs[:1], ds)
		checkAreas(t, s, xs, ds[1:2])
	}
}

// increasing returns the same numbers in order, each once.
func increasing(l []api.Rat) []api.Rat {
	slices.SortFunc(l, func(x, y api.Rat) int { return rat(x).Cmp(rat(y)) })
	return slices.Compact(l)
}

func checkAreas(t *testing.T, s api.Solid, xs, ds []api.Rat) {
	t.Helper()
	var want [][]api.Rat
	for _, x := range xs {
		var row []api.Rat
		for _, d := range ds {
			row = append(row, known(t, s, at("0 0"), d, x).Area)
		}
		want = append(want, row)
	}
	if got, e := Table(s, xs, ds); e != api.OK || !slices.EqualFunc(got, want, slices.Equal[[]api.Rat]) {
		t.Errorf("%v, %v, %v: %v instead of %v, %d", s, xs, ds, got, want, e)
	}
}

// P19.3: without stations, without levels, and with as many as the limit allows.
func TestSizesOfTables(t *testing.T) {
	for n := range api.MaxStations + 1 {
		for _, sizes := range [][2]int{{n, 0}, {0, n}, {n, 1}, {1, n}} {
			got, e := Table(example(t), count(sizes[0]), count(sizes[1]))
			if e != api.OK || len(got) != sizes[0] {
				t.Fatalf("%v: %d rows, %d", sizes, len(got), e)
			}
			for _, row := range got {
				if len(row) != sizes[1] {
					t.Errorf("%v: %v", sizes, row)
				}
			}
		}
	}
}

// count returns numbers from 0 on.
func count(n int) []api.Rat {
	var out []api.Rat
	for i := range n {
		out = append(out, api.Rat(strconv.Itoa(i)))
	}
	return out
}

// fleet returns as many boxes as a solid can have, all of them as long, at different breadths and heights, in an order that leaves halves of it open.
func fleet(t *testing.T) api.Solid {
	t.Helper()
	var sides [12]api.Solid
	for i := range int64(42) {
		low, high := numbers{big.NewRat(0, 1), big.NewRat(2*i, 3), big.NewRat(-i, 7)}, numbers{big.NewRat(9, 1), big.NewRat(2*i+1, 3), big.NewRat(i+1, 2)}
		for k, triangle := range need[api.Solid](t)(mesh.Box(made(low), made(high))) {
			sides[k] = append(sides[k], triangle)
		}
	}
	return slices.Concat(sides[:]...)
}

// P19.1 to P19.3: the solid may have as many triangles as the limit allows, and its part in the water still more.
func TestManyTriangles(t *testing.T) {
	for _, c := range []struct {
		s api.Solid
		a string
	}{{fleet(t), "0 0"}, {drum(t), "0 0"}, {drum(t), "1/9 -1/7"}} {
		water := need[api.Plane](t)(attitude.Water(at(c.a), "1/4"))
		if _, e := clip.Below(c.s, water); e != api.ErrTooLarge {
			t.Errorf("%s: the part can be one solid: %d", c.a, e)
		}
		for _, x := range list("-3/5 0 1/9 40/9") {
			want := known(t, c.s, at(c.a), "1/4", x)
			if got, e := At(c.s, at(c.a), "1/4", x); e != api.OK || got != want {
				t.Errorf("%s: %v instead of %v, %d", c.a, got, want, e)
			}
		}
		want := knownBreaks(t, c.s, at(c.a), "1/4")
		if got, e := Breaks(c.s, at(c.a), "1/4"); e != api.OK || !slices.Equal(got, want) {
			t.Errorf("%s: the breaks %v instead of %v, %d", c.a, got, want, e)
		}
		if len(want) > 100 {
			continue // the sums would take several seconds
		}
		first := need[api.Rat](t)(float.Volume(c.s, at(c.a), "1/4"))
		second := need[api.Vector](t)(float.Moments(c.s, at(c.a), "1/4")).X
		if volume, moment, e := Sum(c.s, at(c.a), "1/4"); e != api.OK || volume != first || moment != second {
			t.Errorf("%s: the sums %s and %s instead of %s and %s, %d", c.a, volume, moment, first, second, e)
		}
	}
	checkAreas(t, fleet(t), list("-1 0 4"), list("-3 1/4 2"))
	checkAreas(t, drum(t), list("-3/5 0 1/2"), list("0 1/4 1"))
}

// drum is a prism with as many points as a solid can have, which have few different X coordinates.
func drum(t *testing.T) api.Solid {
	t.Helper()
	var polygon []api.Vector
	for i := range int64(129) {
		y := big.NewRat(i-64, 2)
		polygon = append(polygon, made(numbers{big.NewRat(-i%2, 2), y, new(big.Rat)}))
	}
	polygon[0].X, polygon[128].X = "5", "5"
	return need[api.Solid](t)(mesh.Prism(polygon, vec("0 0 1")))
}

// P19.4: the sums are the volume and its first moment.
func TestSumsAreVolumes(t *testing.T) {
	each(t, bodies(t), func(s api.Solid, a api.Attitude, d api.Rat) {
		first, second := need[api.Rat](t)(float.Volume(s, a, d)), need[api.Vector](t)(float.Moments(s, a, d)).X
		if volume, moment, e := Sum(s, a, d); e != api.OK || volume != first || moment != second {
			t.Errorf("%v at %v, %s: the sums %s and %s instead of %s and %s, %d", s, a, d, volume, moment, first, second, e)
		}
	})
}

// P19.4: areas of convex solids are not negative, do not get smaller if the level rises, and are 0 outside of the breaks.
func TestConvexSolids(t *testing.T) {
	for _, s := range convexBodies(t) {
		for _, a := range attitudes() {
			before := map[api.Rat]*big.Rat{}
			for _, d := range increasing(levels(t, s, a)) {
				l := need[[]api.Rat](t)(Breaks(s, a, d))
				for _, x := range places(s) {
					area := rat(need[api.Slice](t)(At(s, a, d, x)).Area)
					if area.Sign() < 0 || before[x] != nil && area.Cmp(before[x]) < 0 {
						t.Errorf("%v at %v, %s: the area at %s is %v", s, a, d, x, area)
					}
					isOutside := len(l) == 0 || rat(x).Cmp(rat(l[0])) < 0 || rat(x).Cmp(rat(l[len(l)-1])) > 0
					if isOutside && area.Sign() != 0 {
						t.Errorf("%v at %v, %s: outside of %v, at %s, the area is %v", s, a, d, l, x, area)
					}
					before[x] = area
				}
			}
		}
	}
}

// P19.4: the sections of a mirrored solid at the opposite heel.
func TestMirroredSolids(t *testing.T) {
	each(t, bodies(t), func(s api.Solid, a api.Attitude, d api.Rat) {
		image, opposite := need[api.Solid](t)(mesh.Mirror(s)), need[api.Attitude](t)(attitude.Mirror(a))
		for _, x := range places(s) {
			want := need[api.Slice](t)(At(s, a, d, x))
			want.Y = text(minus(new(big.Rat), rat(want.Y)))
			if got, e := At(image, opposite, d, x); e != api.OK || got != want {
				t.Errorf("%v at %v, %s: mirrored %v instead of %v, %d", s, a, d, got, want, e)
			}
		}
	})
}
