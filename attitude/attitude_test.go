package attitude

import (
	"math/big"
	"math/rand"
	"slices"
	"testing"

	"garboard/api"
)

// P16.1
func TestVectors(t *testing.T) {
	source := rand.New(rand.NewSource(1))
	for _, a := range attitudes(source) {
		n := vectors(a)
		if e := Check(a); e != api.OK {
			t.Errorf("%v: the error %d", a, e)
		}
		want := api.Frame{Ahead: made(n[0]), Side: made(n[1]), Up: made(n[2])}
		if got, e := Of(a); e != api.OK || got != want {
			t.Errorf("%v: %v instead of %v, %d", a, got, want, e)
		}
		for _, d := range []api.Rat{"0", "3", "-7/2", "1/123456789012345678901234567890"} {
			if got, e := Water(a, d); e != api.OK || got != (api.Plane{N: want.Up, C: d}) {
				t.Errorf("%v: the water at %s is %v, %d", a, d, got, e)
			}
		}
	}
}

// The chapter's examples, and others that are known.
func TestExamples(t *testing.T) {
	for _, c := range []struct {
		a               api.Attitude
		ahead, side, up string
		r, turned       string
	}{
		{api.Attitude{Heel: "1/2", Trim: "0"}, "1 0 0", "0 3/5 4/5", "0 -4/5 3/5", "7 5 0", "7 3 -4"},
		{api.Attitude{Heel: "0", Trim: "0"}, "1 0 0", "0 1 0", "0 0 1", "2 -3 1/2", "2 -3 1/2"},
		{api.Attitude{Heel: "0", Trim: "1/2"}, "3/5 0 4/5", "0 1 0", "-4/5 0 3/5", "5 1 0", "3 1 -4"},
		{api.Attitude{Heel: "1", Trim: "0"}, "1 0 0", "0 0 1", "0 -1 0", "2 3 4", "2 4 -3"},
		{api.Attitude{Heel: "-1", Trim: "0"}, "1 0 0", "0 0 -1", "0 1 0", "2 3 4", "2 -4 3"},
		{api.Attitude{Heel: "1/3", Trim: "1/2"}, "3/5 -12/25 16/25", "0 4/5 3/5", "-4/5 -9/25 12/25", "25 25 25", "19 35 -17"},
		{api.Attitude{Heel: "-1/3", Trim: "-1/2"}, "3/5 -12/25 -16/25", "0 4/5 -3/5", "4/5 9/25 12/25", "25 0 0", "15 0 20"},
	} {
		want := api.Frame{Ahead: point(c.ahead), Side: point(c.side), Up: point(c.up)}
		if got, e := Of(c.a); e != api.OK || got != want {
			t.Errorf("%v: %v, %d", c.a, got, e)
		}
		if got, e := Turn(c.a, point(c.r)); e != api.OK || got != point(c.turned) {
			t.Errorf("%v: %s is turned to %v, %d", c.a, c.r, got, e)
		}
		if got, e := Back(c.a, point(c.turned)); e != api.OK || got != point(c.r) {
			t.Errorf("%v: %s is turned back to %v, %d", c.a, c.turned, got, e)
		}
	}
}

// The chapter: a positive heel puts the starboard side down, a positive trim the bow, and points up to the level are in the water.
func TestDirections(t *testing.T) {
	for _, c := range []struct {
		a    api.Attitude
		r    string
		sign int
	}{
		{api.Attitude{Heel: "1/9", Trim: "0"}, "0 1 0", -1}, {api.Attitude{Heel: "1/9", Trim: "0"}, "0 -1 0", 1}, {api.Attitude{Heel: "-1/9", Trim: "0"}, "0 1 0", 1},
		{api.Attitude{Heel: "0", Trim: "1/9"}, "1 0 0", -1}, {api.Attitude{Heel: "0", Trim: "1/9"}, "-1 0 0", 1}, {api.Attitude{Heel: "0", Trim: "-1/9"}, "1 0 0", 1},
		{api.Attitude{Heel: "1/9", Trim: "1/9"}, "0 0 1", 1}, {api.Attitude{Heel: "-1/9", Trim: "1/9"}, "0 0 -1", -1},
	} {
		turned := need[api.Vector](t)(Turn(c.a, point(c.r)))
		if rat(turned.Z).Sign() != c.sign {
			t.Errorf("%v: %s is at the height %s", c.a, c.r, turned.Z)
		}
		water := need[api.Plane](t)(Water(c.a, turned.Z))
		if dot(values(water.N), values(point(c.r))).Cmp(rat(water.C)) != 0 {
			t.Errorf("%v: %s is not in the plane of the water at its height", c.a, c.r)
		}
	}
}

// P16.2: the scalar products with the three vectors, and the sum of these with some coordinates as factors.
func TestTurn(t *testing.T) {
	source := rand.New(rand.NewSource(2))
	for _, a := range attitudes(source) {
		n := vectors(a)
		for _, r := range points(source, 12) {
			c := values(r)
			want := made(numbers{dot(n[0], c), dot(n[1], c), dot(n[2], c)})
			if got, e := Turn(a, r); e != api.OK || got != want {
				t.Errorf("%v: %v is turned to %v instead of %v, %d", a, r, got, want, e)
			}
			var back numbers
			for i := range back {
				back[i] = sum(product(c[0], n[0][i]), product(c[1], n[1][i]), product(c[2], n[2][i]))
			}
			if got, e := Back(a, r); e != api.OK || got != made(back) {
				t.Errorf("%v: %v is turned back to %v instead of %v, %d", a, r, got, made(back), e)
			}
		}
	}
}

// P16.3
func TestMirror(t *testing.T) {
	for _, a := range attitudes(rand.New(rand.NewSource(3))) {
		want := api.Attitude{Heel: text(negative(rat(a.Heel))), Trim: a.Trim}
		if got, e := Mirror(a); e != api.OK || got != want {
			t.Errorf("%v: %v instead of %v, %d", a, got, want, e)
		}
	}
}

// P16.3
func TestExtent(t *testing.T) {
	source := rand.New(rand.NewSource(4))
	for _, s := range solids(source) {
		for _, a := range attitudes(source)[15:35] {
			var l [3][]*big.Rat
			for _, triangle := range s {
				for _, r := range triangle {
					for i, n := range vectors(a) {
						l[i] = append(l[i], dot(n, values(r)))
					}
				}
			}
			var want [3]api.Interval
			for i, of := range l {
				want[i] = api.Interval{Lo: text(slices.MinFunc(of, (*big.Rat).Cmp)), Hi: text(slices.MaxFunc(of, (*big.Rat).Cmp))}
			}
			if got, e := Extent(s, a); e != api.OK || got != (api.Spot{Ahead: want[0], Side: want[1], Up: want[2]}) {
				t.Errorf("%v: the extent of %v is %v instead of %v, %d", a, s, got, want, e)
			}
		}
	}
}

// P16.3: the extent of a triangle, whichever of its points is the first one.
func TestKnownExtent(t *testing.T) {
	l := []api.Vector{point("0 0 0"), point("10 0 5"), point("0 -5 10")}
	want := api.Spot{Ahead: api.Interval{Lo: "0", Hi: "10"}, Side: api.Interval{Lo: "0", Hi: "5"}, Up: api.Interval{Lo: "0", Hi: "10"}}
	for i := range l {
		s := api.Solid{{l[i], l[(i+1)%3], l[(i+2)%3]}}
		if got, e := Extent(s, api.Attitude{Heel: "1/2", Trim: "0"}); e != api.OK || got != want {
			t.Errorf("%v: %v, %d", s, got, e)
		}
	}
}

// P16.4: the three vectors have the length 1, and are perpendicular to each other; Ahead, Side and Up are right-handed.
func TestPropertiesOfVectors(t *testing.T) {
	for _, a := range attitudes(rand.New(rand.NewSource(5))) {
		f := need[api.Frame](t)(Of(a))
		n := [3]numbers{values(f.Ahead), values(f.Side), values(f.Up)}
		for i := range n {
			for k := range n {
				want := new(big.Rat)
				if i == k {
					want.SetInt64(1)
				}
				if dot(n[i], n[k]).Cmp(want) != 0 {
					t.Errorf("%v: the product of the vectors %d and %d is %v", a, i, k, dot(n[i], n[k]))
				}
			}
		}
		for i := range n {
			k, l := (i+1)%3, (i+2)%3
			if height := sum(product(n[0][k], n[1][l]), negative(product(n[0][l], n[1][k]))); height.Cmp(n[2][i]) != 0 {
				t.Errorf("%v: %v is not right-handed", a, f)
			}
		}
	}
}

// P16.4: turning keeps distances, and Back undoes Turn.
func TestPropertiesOfTurning(t *testing.T) {
	source := rand.New(rand.NewSource(6))
	turned := need[api.Vector](t)
	for _, a := range attitudes(source) {
		l := points(source, 8)
		for i, r := range l {
			q := l[(i+1)%len(l)]
			before, behind := difference(values(r), values(q)), difference(values(turned(Turn(a, r))), values(turned(Turn(a, q))))
			if dot(before, before).Cmp(dot(behind, behind)) != 0 {
				t.Errorf("%v: the distance of %v and %v changes", a, r, q)
			}
			if back := turned(Back(a, turned(Turn(a, r)))); back != r {
				t.Errorf("%v: %v comes back as %v", a, r, back)
			}
			if again := turned(Turn(a, turned(Back(a, r)))); again != r {
				t.Errorf("%v: %v comes again as %v", a, r, again)
			}
		}
	}
}

// P16.4
func TestPropertiesOfImages(t *testing.T) {
	source := rand.New(rand.NewSource(7))
	turned := need[api.Vector](t)
	for _, a := range attitudes(source) {
		opposite := need[api.Attitude](t)(Mirror(a))
		if again := need[api.Attitude](t)(Mirror(opposite)); again != a {
			t.Errorf("%v is %v, mirrored twice", a, again)
		}
		for _, r := range points(source, 8) {
			image := api.Vector{X: r.X, Y: text(negative(rat(r.Y))), Z: r.Z}
			want := turned(Turn(a, r))
			want.Y = text(negative(rat(want.Y)))
			if got := turned(Turn(opposite, image)); got != want {
				t.Errorf("%v: the image of %v is turned to %v instead of %v", a, r, got, want)
			}
		}
	}
}
