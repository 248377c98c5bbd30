package mass

import (
	"math/big"
	"math/rand"
	"slices"
	"testing"

	"garboard/api"
	"garboard/clip"
	"garboard/mesh"
)

// right returns a result; an error shows by its being zero.
func right[T any](result T, _ api.Errno) T { return result }

// The chapter's examples.
func TestExamples(t *testing.T) {
	body := box(t, "0 0 0", "2 1 1")
	m, e := Of(body)
	if v, f := Volume(body); e != api.OK || f != api.OK || v != "2" || m.Volume != "2" || m.Moment != point("2 1 1") || m.XX != "8/3" || m.YY != "2/3" || m.XY != "1" {
		t.Errorf("the box has %s, %d, and %v, %d", v, f, m, e)
	}
	section, e := clip.Section(body, plane("0 0 1 1/2"))
	if area, f := Section(section, point("1 0 0"), point("0 1 0")); e != api.OK || f != api.OK || area.Area != "2" || area.A != "2" || area.B != "1" || area.AA != "8/3" {
		t.Errorf("the section is %v, %d, %d", area, e, f)
	}
}

// P14.1: solids of many kinds, with short numbers and long ones.
func TestOf(t *testing.T) {
	signs := map[int]int{}
	for _, s := range someSolids(t) {
		want := massAsDefined(s)
		if got, e := Of(s); e != api.OK || got != want {
			t.Errorf("%v has %v instead of %v, %d", s, got, want, e)
		}
		if got, e := Volume(s); e != api.OK || got != want.Volume {
			t.Errorf("%v has the volume %s instead of %s, %d", s, got, want.Volume, e)
		}
		signs[rat(want.Volume).Sign()]++
	}
	if signs[-1] < 5 || signs[0] < 3 || signs[1] < 10 {
		t.Errorf("signs of volumes: %v", signs)
	}
	nothing := api.Mass{Volume: "0", Moment: point("0 0 0"), XX: "0", YY: "0", ZZ: "0", XY: "0", YZ: "0", ZX: "0"}
	for _, s := range []api.Solid{nil, {}, triangles(corners(), "aaa"), triangles(corners(), "bcd bdc")} {
		if got, e := Of(s); e != api.OK || got != nothing {
			t.Errorf("%v has %v, %d", s, got, e)
		}
		if got, e := Volume(s); e != api.OK || got != "0" {
			t.Errorf("%v has the volume %s, %d", s, got, e)
		}
	}
}

// boxMass returns the integrals of a box, each coordinate by itself.
func boxMass(low, high numbers) api.Mass {
	var size, middle, square numbers
	for i := range low {
		size[i] = minusBig(high[i], low[i])
		middle[i] = timesBig(plusBig(low[i], high[i]), big.NewRat(1, 2))
		square[i] = plusBig(plusBig(timesBig(low[i], low[i]), timesBig(low[i], high[i])), timesBig(high[i], high[i]))
		square[i].Mul(square[i], big.NewRat(1, 3))
	}
	volume := timesBig(timesBig(size[0], size[1]), size[2])
	l := [10]*big.Rat{big.NewRat(1, 1), middle[0], middle[1], middle[2], square[0], square[1], square[2], timesBig(middle[0], middle[1]), timesBig(middle[1], middle[2]), timesBig(middle[2], middle[0])}
	for i, x := range l {
		l[i] = timesBig(x, volume)
	}
	return madeMass(l)
}

// P14.1, P14.4: boxes have the volume of their lengths, and their middle as center.
func TestBoxes(t *testing.T) {
	for _, c := range [][2]string{{"0 0 0", "1 1 1"}, {"-1 -2 -3", "-1/2 -1 -2"}, {"-1/3 -1/7 -1/11", "1/3 1/7 1/11"}, {"5 0 -7/2", "123456789012345678901234567890 1/1000000000000 9"}, {"-3 -3 -3", "0 0 5"}} {
		low, high := numbersOf(point(c[0])), numbersOf(point(c[1]))
		want := boxMass(low, high)
		got, e := Of(box(t, c[0], c[1]))
		if e != api.OK || got != want {
			t.Errorf("%v: %v instead of %v, %d", c, got, want, e)
		}
		if middle, e := Center(got); e != api.OK || middle != between(point(c[0]), point(c[1]), big.NewRat(1, 2)) {
			t.Errorf("%v: the center is %v, %d", c, middle, e)
		}
	}
}

// tetrahedronMass returns the integrals of a tetrahedron by the mean values of coordinates and their products.
func tetrahedronMass(l []api.Vector) api.Mass {
	var p [4]numbers
	var s numbers
	for i := range s {
		s[i] = new(big.Rat)
	}
	for k := range p {
		p[k] = numbersOf(l[k])
		for i := range s {
			s[i] = plusBig(s[i], p[k][i])
		}
	}
	from := func(k int) numbers {
		return numbers{minusBig(p[k][0], p[0][0]), minusBig(p[k][1], p[0][1]), minusBig(p[k][2], p[0][2])}
	}
	volume := timesBig(dotted(from(1), crossed(from(2), from(3))), big.NewRat(1, 6))
	mixed := func(i, k int) *big.Rat {
		x := timesBig(s[i], s[k])
		for _, q := range p {
			x.Add(x, timesBig(q[i], q[k]))
		}
		return timesBig(timesBig(x, volume), big.NewRat(1, 20))
	}
	quarter := timesBig(volume, big.NewRat(1, 4))
	return madeMass([10]*big.Rat{volume, timesBig(s[0], quarter), timesBig(s[1], quarter), timesBig(s[2], quarter), mixed(0, 0), mixed(1, 1), mixed(2, 2), mixed(0, 1), mixed(1, 2), mixed(2, 0)})
}

// P14.1
func TestTetrahedra(t *testing.T) {
	source := rand.New(rand.NewSource(3))
	for range 60 {
		l := randomPoints(source, 4)
		if got, e := Of(triangles(l, tetrahedron)); e != api.OK || got != tetrahedronMass(l) {
			t.Errorf("%v: %v instead of %v, %d", l, got, tetrahedronMass(l), e)
		}
	}
}

// randomMass returns any numbers, some of which are 0.
func randomMass(source *rand.Rand) [10]*big.Rat {
	var out [10]*big.Rat
	kind := kinds[source.Intn(len(kinds))]
	for i := range out {
		out[i] = kind(source)
	}
	return out
}

// P14.2
func TestAddAndScale(t *testing.T) {
	source := rand.New(rand.NewSource(4))
	var zeros [10]*big.Rat
	for i := range zeros {
		zeros[i] = new(big.Rat)
	}
	for i := range 200 {
		m, n, x := randomMass(source), randomMass(source), kinds[source.Intn(len(kinds))](source)
		if i%10 == 0 {
			m = zeros
		}
		if i%15 == 0 {
			n = zeros
		}
		var sum, product [10]*big.Rat
		for i := range sum {
			sum[i], product[i] = plusBig(m[i], n[i]), timesBig(m[i], x)
		}
		if got, e := Add(madeMass(m), madeMass(n)); e != api.OK || got != madeMass(sum) {
			t.Errorf("%v and %v are %v, %d", m, n, got, e)
		}
		if got, e := Scale(madeMass(m), text(x)); e != api.OK || got != madeMass(product) {
			t.Errorf("%v times %v is %v, %d", m, x, got, e)
		}
	}
}

// movedAsDefined is written as the chapter writes it.
func movedAsDefined(l [10]*big.Rat, v numbers) api.Mass {
	volume, moment := l[0], numbers{l[1], l[2], l[3]}
	out := l
	for i := range moment {
		out[1+i] = plusBig(moment[i], timesBig(volume, v[i]))
	}
	for at, pair := range [][2]int{{0, 0}, {1, 1}, {2, 2}, {0, 1}, {1, 2}, {2, 0}} {
		i, k := pair[0], pair[1]
		x := plusBig(l[4+at], timesBig(v[i], moment[k]))
		x.Add(x, timesBig(v[k], moment[i]))
		out[4+at] = x.Add(x, timesBig(volume, timesBig(v[i], v[k])))
	}
	return madeMass(out)
}

// P14.2
func TestMove(t *testing.T) {
	source := rand.New(rand.NewSource(5))
	for range 200 {
		m, v := randomMass(source), randomPoints(source, 1)[0]
		if got, e := Move(madeMass(m), v); e != api.OK || got != movedAsDefined(m, numbersOf(v)) {
			t.Errorf("%v moved by %v is %v, %d", m, v, got, e)
		}
	}
}

// P14.2: also volumes that are negative, or quotients of all kinds.
func TestCenter(t *testing.T) {
	source := rand.New(rand.NewSource(6))
	volumes := []api.Rat{"1", "-1", "2", "-2", "1/2", "-1/2", "3/7", "-3/7", "10/3", "-10", "1/10", "123456789012345678901234567890/7", "-7/123456789012345678901234567890"}
	for _, volume := range volumes {
		for range 10 {
			m := randomMass(source)
			m[0] = rat(volume)
			want := made(numbers{new(big.Rat).Quo(m[1], m[0]), new(big.Rat).Quo(m[2], m[0]), new(big.Rat).Quo(m[3], m[0])})
			if got, e := Center(madeMass(m)); e != api.OK || got != want {
				t.Errorf("the center of %v is %v instead of %v, %d", m, got, want, e)
			}
		}
	}
}

// loops returns a closed section: some polygons, whose edges need not be in one plane, and are not in order.
func loops(source *rand.Rand) []api.Segment {
	var out []api.Segment
	for range 1 + source.Intn(3) {
		l := randomPoints(source, 1+source.Intn(6))
		for i, p := range l {
			out = append(out, api.Segment{p, l[(i+1)%len(l)]})
		}
	}
	source.Shuffle(len(out), func(i, k int) { out[i], out[k] = out[k], out[i] })
	return out
}

// P14.3
func TestSection(t *testing.T) {
	source := rand.New(rand.NewSource(7))
	for range 200 {
		l, v := loops(source), randomPoints(source, 2)
		if got, e := Section(l, v[0], v[1]); e != api.OK || got != areaAsDefined(l, v[0], v[1]) {
			t.Errorf("%v along %v: %v instead of %v, %d", l, v, got, areaAsDefined(l, v[0], v[1]), e)
		}
	}
	x, y := point("1 0 0"), point("0 1 0")
	l := points("1 2 5, 4 2 5, 4 4 5, 1 4 5, 2 3 5")
	for _, c := range []struct {
		edges string
		want  api.Area
	}{
		{"", api.Area{Area: "0", A: "0", B: "0", AA: "0", BB: "0", AB: "0"}},
		{"aa", api.Area{Area: "0", A: "0", B: "0", AA: "0", BB: "0", AB: "0"}},
		{"ab ba", api.Area{Area: "0", A: "0", B: "0", AA: "0", BB: "0", AB: "0"}},
		{"ab bc cd da", api.Area{Area: "6", A: "15", B: "18", AA: "42", BB: "56", AB: "45"}},
		{"da ee cd ab bc", api.Area{Area: "6", A: "15", B: "18", AA: "42", BB: "56", AB: "45"}},
		{"ba cb dc ad", api.Area{Area: "-6", A: "-15", B: "-18", AA: "-42", BB: "-56", AB: "-45"}},
		{"ab bc cd da ab bc cd da", api.Area{Area: "12", A: "30", B: "36", AA: "84", BB: "112", AB: "90"}},
		{"ab bc ca", api.Area{Area: "3", A: "9", B: "8", AA: "57/2", BB: "22", AB: "49/2"}},
	} {
		if got, e := Section(segments(l, c.edges), x, y); e != api.OK || got != c.want {
			t.Errorf("%s: %v instead of %v, %d", c.edges, got, c.want, e)
		}
	}
	most := slices.Repeat(segments(l, "ab bc cd da"), api.MaxTriangles/4)
	if got, e := Section(most, x, y); e != api.OK || got.Area != "768" || got.AB != "5760" {
		t.Errorf("%d edges: %v, %d", len(most), got, e)
	}
	if got, e := Section(most, y, point("0 0 0")); e != api.OK || got.Area != "0" || got.AA != "0" {
		t.Errorf("along the zero vector: %v, %d", got, e)
	}
}

// P14.3, P14.4: the part below has its own integrals, and both parts those of the whole.
func TestBelow(t *testing.T) {
	each(t, func(s api.Solid, p api.Plane) {
		part, e := clip.Below(s, p)
		got, f := Below(s, p)
		if e != api.OK || f != api.OK || got != massAsDefined(part) {
			t.Errorf("%v by %v: %v instead of %v, %d, %d", s, p, got, massAsDefined(part), e, f)
		}
		rest := right(Of(right(clip.Above(s, p))))
		if sum, e := Add(got, rest); e != api.OK || sum != massAsDefined(s) {
			t.Errorf("%v by %v: both parts have %v instead of %v, %d", s, p, sum, massAsDefined(s), e)
		}
	})
}

// P14.3: solids whose parts below have too many triangles for a solid.
func TestBelowOfManyTriangles(t *testing.T) {
	var boxes api.Solid
	var want [10]*big.Rat
	for i := range want {
		want[i] = new(big.Rat)
	}
	for i := range int64(42) {
		low, high := numbers{big.NewRat(i, 3), big.NewRat(i*i%7, 1), big.NewRat(-i, 5)}, numbers{big.NewRat(i+1, 3), big.NewRat(i*i%7+1, 2), big.NewRat(i+1, 2)}
		if high[1].Cmp(low[1]) <= 0 {
			low[1] = minusBig(high[1], big.NewRat(1, 3))
		}
		boxes = append(boxes, box3(t, low, high)...)
		high[2] = big.NewRat(1, 7)
		for k, x := range readMass(boxMass(low, high)) {
			want[k].Add(want[k], x)
		}
	}
	p := plane("0 0 3 3/7")
	if part, e := clip.Below(boxes, p); e != api.ErrTooLarge {
		t.Errorf("the part has only %d triangles, %d", len(part), e)
	}
	if got, e := Below(boxes, p); e != api.OK || got != madeMass(want) {
		t.Errorf("below of %d triangles is %v instead of %v, %d", len(boxes), got, madeMass(want), e)
	}
	var polygon []api.Vector
	for i := range int64(129) {
		polygon = append(polygon, made(numbers{big.NewRat(i, 3), big.NewRat(i*i, 2), new(big.Rat)}))
	}
	whole, lower := prism(t, polygon, "0 0 4"), prism(t, polygon, "0 0 3")
	if part, e := clip.Below(whole, plane("0 0 1 3")); e != api.ErrTooLarge {
		t.Errorf("the part has only %d triangles, %d", len(part), e)
	}
	if got, e := Below(whole, plane("0 0 1 3")); e != api.OK || got != massAsDefined(lower) {
		t.Errorf("below of the prism is %v instead of %v, %d", got, massAsDefined(lower), e)
	}
	if got, e := Below(whole, plane("0 0 1 4")); e != api.OK || got != massAsDefined(whole) {
		t.Errorf("all of the prism is %v, %d", got, e)
	}
	if got, e := Below(whole, plane("0 0 -1 -4")); e != api.OK || got != massAsDefined(nil) {
		t.Errorf("nothing of the prism is %v, %d", got, e)
	}
}

func box3(t *testing.T, low, high numbers) api.Solid {
	t.Helper()
	return need[api.Solid](t)(mesh.Box(made(low), made(high)))
}

// P14.4: moved solids, and such that are inside out. The order of the triangles, and which point comes first, do not matter.
func TestMovedSolids(t *testing.T) {
	source := rand.New(rand.NewSource(8))
	for _, s := range someSolids(t) {
		m := right(Of(s))
		for _, v := range append(points("0 0 0, 1 0 0, 0 -3/2 1/7"), randomPoints(source, 1)...) {
			moved := right(Of(right(mesh.Move(s, v))))
			if got, e := Move(m, v); e != api.OK || got != moved {
				t.Errorf("%v moved by %v: %v instead of %v, %d", s, v, got, moved, e)
			}
		}
		back := right(Of(right(mesh.Reverse(s))))
		if got, e := Scale(m, "-1"); e != api.OK || got != back {
			t.Errorf("%v inside out: %v instead of %v, %d", s, got, back, e)
		}
		other := slices.Clone(s)
		slices.Reverse(other)
		for i, triangle := range other {
			other[i] = api.Triangle{triangle[2], triangle[0], triangle[1]}
		}
		if got, e := Of(other); e != api.OK || got != m {
			t.Errorf("%v in another order: %v instead of %v, %d", s, got, m, e)
		}
	}
}

// P14.4: the volume of a prism is the area of its section times its height.
func TestPrisms(t *testing.T) {
	x, y := point("1 0 0"), point("0 1 0")
	for _, l := range [][]api.Vector{points("0 0 0, 3 0 0, 4 1 0, 2 3/2 0, -1 1 0"), points("0 0 0, 3 0 0, 3 1 0, 1 1 0, 1 3 0, 0 3 0"), points("0 0 0, 0 3 0, 3 0 0"), points("0 0 0, 2 2 0, 2 0 0, 0 2 0")} {
		for _, height := range []api.Rat{"1", "7/3", "1000000000000/3"} {
			s := need[api.Solid](t)(mesh.Prism(l, api.Vector{X: "-1/5", Y: "11", Z: height}))
			middle := text(timesBig(rat(height), big.NewRat(2, 5)))
			area, e := Section(right(clip.Section(s, api.Plane{N: point("0 0 1"), C: middle})), x, y)
			volume, f := Volume(s)
			if e != api.OK || f != api.OK || volume != text(timesBig(rat(area.Area), rat(height))) {
				t.Errorf("the prism over %v has %s and %s, %d, %d", l, area.Area, volume, e, f)
			}
		}
	}
}
