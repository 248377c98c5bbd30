package mesh

import (
	"math/big"
	"math/rand"
	"slices"
	"testing"

	"garboard/api"
)

// polygon returns points of a parabola, so that no three of them are on one line.
func polygon(count int) []api.Vector {
	var out []api.Vector
	for i := range count {
		out = append(out, api.Vector{X: text(big.NewRat(int64(i), 3)), Y: text(big.NewRat(int64(i*i), 2)), Z: "0"})
	}
	return out
}

// P12.1
func TestFan(t *testing.T) {
	l := corners()
	for _, c := range []struct {
		of   []api.Vector
		want string
	}{{l[:3], "abc"}, {l[:4], "abc acd"}, {l[:6], "abc acd ade aef"}, {[]api.Vector{l[1], l[1], l[1]}, "bbb"}, {[]api.Vector{l[2], l[0], l[1], l[0]}, "cab cba"}} {
		if got, e := Fan(c.of); e != api.OK || !slices.Equal(got, triangles(l, c.want)) {
			t.Errorf("%s: %v, %d", c.want, got, e)
		}
	}
	for _, count := range []int{3, 10, 129, 130, 255, 256} {
		l := polygon(count)
		got, e := Fan(l)
		if e != api.OK || len(got) != count-2 {
			t.Errorf("%d points: %d triangles, %d", count, len(got), e)
			continue
		}
		for i, triangle := range got {
			if triangle != (api.Triangle{l[0], l[i+1], l[i+2]}) {
				t.Errorf("%d points: the triangle %d is %v", count, i, triangle)
			}
		}
	}
}

// prismAsDefined is written as the chapter writes it, with numbers from 1 on.
func prismAsDefined(l []api.Vector, v api.Vector) api.Solid {
	n := len(l)
	p, q := make([]api.Vector, n+1), make([]api.Vector, n+1)
	for i := 1; i <= n; i++ {
		p[i] = l[i-1]
		q[i] = made(plus(read(p[i]), read(v)))
	}
	var out api.Solid
	for i := 2; i < n; i++ {
		out = append(out, api.Triangle{p[1], p[i+1], p[i]})
	}
	for i := 2; i < n; i++ {
		out = append(out, api.Triangle{q[1], q[i], q[i+1]})
	}
	for i := 1; i <= n; i++ {
		j := i + 1
		if i == n {
			j = 1
		}
		out = append(out, api.Triangle{p[i], p[j], q[j]}, api.Triangle{p[i], q[j], q[i]})
	}
	return out
}

// P12.1, P12.4: also of polygons that cross themselves, and along vectors that leave no volume.
func TestPrism(t *testing.T) {
	source := rand.New(rand.NewSource(6))
	vectors := append(points("0 0 0, 0 0 1, 0 0 -1/2, 1 0 0, 1/3 -2/5 9999999999999999999999"), randomPoints(source, 3)...)
	polygons := [][]api.Vector{polygon(3), polygon(4), polygon(100), polygon(129), points("0 0 0, 0 0 0, 0 0 0"), points("0 0 0, 1 1 0, 1 0 0, 0 1 0"), points("0 0 0, 1 0 0, 0 0 0, 0 1 0")}
	for count := 3; count < 12; count++ {
		polygons = append(polygons, randomPoints(source, count))
	}
	for _, l := range polygons {
		for _, v := range vectors {
			got, e := Prism(l, v)
			if e != api.OK || !slices.Equal(got, prismAsDefined(l, v)) || Check(got) != api.OK {
				t.Errorf("the prism over %v along %v is %v, %d", l, v, got, e)
			}
		}
	}
	if got, e := Prism(polygon(129), point("0 0 2")); e != api.OK || len(got) != api.MaxTriangles || volume(got) != volumeOver(polygon(129), 2) {
		t.Errorf("the greatest prism has %d triangles, %d", len(got), e)
	}
}

// volumeOver is the area of a polygon with Z 0, times a height.
func volumeOver(l []api.Vector, height int64) api.Rat {
	twice := new(big.Rat)
	for i := range l {
		a, b := read(l[i]), read(l[(i+1)%len(l)])
		twice.Add(twice, new(big.Rat).Mul(a[0], b[1]))
		twice.Sub(twice, new(big.Rat).Mul(a[1], b[0]))
	}
	return text(twice.Mul(twice, big.NewRat(height, 2)))
}

// P12.1: the box of the chapter, triangle by triangle.
func TestBox(t *testing.T) {
	l := points("0 0 0, 2 0 0, 2 1 0, 0 1 0, 0 0 1, 2 0 1, 2 1 1, 0 1 1")
	want := triangles(l, "acb adc efg egh abf afe bcg bgf cdh chg dae deh")
	if got, e := Box(l[0], l[6]); e != api.OK || !slices.Equal(got, want) {
		t.Errorf("%v instead of %v, %d", got, want, e)
	}
	for _, c := range []struct {
		low, high string
		volume    api.Rat
	}{{"0 0 0", "1 1 1", "1"}, {"-1 -2 -3", "-1/2 -1 -2", "1/2"}, {"-1/3 -1/7 -1/11", "1/3 1/7 1/11", "8/231"}, {"0 0 0", "1/1000000000000 1000000000000 5", "5"}, {"-3 -3 -3", "0 0 0", "27"}} {
		got, e := Box(point(c.low), point(c.high))
		if e != api.OK || Check(got) != api.OK || len(got) != 12 || volume(got) != c.volume {
			t.Errorf("the box from %s to %s is %v, %d", c.low, c.high, got, e)
		}
		low, high := point(c.low), point(c.high)
		base := []api.Vector{low, {X: high.X, Y: low.Y, Z: low.Z}, {X: high.X, Y: high.Y, Z: low.Z}, {X: low.X, Y: high.Y, Z: low.Z}}
		along := new(big.Rat).Sub(rat(high.Z), rat(low.Z))
		if want := prismAsDefined(base, api.Vector{X: "0", Y: "0", Z: text(along)}); !slices.Equal(got, want) {
			t.Errorf("the box from %s to %s is %v instead of %v", c.low, c.high, got, want)
		}
	}
}

// The chapter's examples.
func TestExamples(t *testing.T) {
	body := box(t, "0 0 0", "2 1 1")
	found, e := Points(body)
	isConvex, f := Convex(body)
	count, g := Shells(body)
	if len(body) != 12 || len(found) != 8 || !isConvex || count != 1 || e != api.OK || f != api.OK || g != api.OK {
		t.Errorf("%d triangles, %d points, %v, %d shells, %d, %d, %d", len(body), len(found), isConvex, count, e, f, g)
	}
	if e := Check(body[1:]); e != api.ErrOpen {
		t.Errorf("without its first triangle: %d", e)
	}
	both, e := Join(body, box(t, "3 0 0", "4 1 1"))
	if n, f := Shells(both); n != 2 || e != api.OK || f != api.OK {
		t.Errorf("two boxes have %d shells, %d, %d", n, e, f)
	}
}
