package shape

import (
	"math/big"
	"math/rand"
	"reflect"
	"slices"
	"strconv"
	"testing"

	"garboard/api"
	"garboard/mesh"
)

// solidOf reads triangles, each of which is three letters that stand for the points of a list.
func solidOf(l []api.Named, triangles ...string) api.Solid {
	at := func(letter byte) api.Vector {
		return l[slices.IndexFunc(l, func(p api.Named) bool { return p.Name == string(letter) })].At
	}
	var out api.Solid
	for _, t := range triangles {
		out = append(out, api.Triangle{at(t[0]), at(t[1]), at(t[2])})
	}
	return out
}

// turned exchanges the last two points of each triangle.
func turned(s api.Solid) api.Solid {
	var out api.Solid
	for _, t := range s {
		out = append(out, api.Triangle{t[0], t[2], t[1]})
	}
	return out
}

// image is the solid at the other side of the plane y = 0.
func image(s api.Solid) api.Solid {
	var out api.Solid
	for _, t := range s {
		for i := range t {
			y, _ := new(big.Rat).SetString(string(t[i].Y))
			t[i].Y = api.Rat(y.Neg(y).RatString())
		}
		out = append(out, t)
	}
	return turned(out)
}

// known are parts with their solids.
func known() map[string]struct {
	p    api.Part
	want api.Solid
} {
	points := named(corners)
	cube := named("a 0 1 2, b 3 1 2, c 3 5 2, d 0 5 2, e 0 1 7/2, f 3 1 7/2, g 3 5 7/2, h 0 5 7/2")
	raised := slices.Concat(points[:3], named("x 1 2 3, y 3 2 3, z 1 4 3"))
	square := slices.Concat(points[:4], named("w 0 -1 0, x 2 -1 0, y 0 1 0, z 0 -1 2"))
	return map[string]struct {
		p    api.Part
		want api.Solid
	}{
		"a box":        {box("p", "0 1 2", "3 5 7/2"), solidOf(cube, "acb", "adc", "efg", "egh", "abf", "afe", "bcg", "bgf", "cdh", "chg", "dae", "deh")},
		"a prism":      {prism("p", "abc", "1 2 3"), solidOf(raised, "acb", "xyz", "aby", "ayx", "bcz", "bzy", "cax", "cxz")},
		"another face": {prism("p", "cba", "1 2 3"), solidOf(raised, "cab", "zyx", "cby", "cyz", "bax", "bxy", "acz", "azx")},
		"four points":  {prism("p", "abdc", "0 -1 0"), solidOf(square, "adb", "acd", "wxz", "wzy", "abx", "axw", "bdz", "bzx", "dcy", "dyz", "caw", "cwy")},
		"faces":        {faces("p", tetrahedron), solidOf(points, "acb", "abd", "bcd", "cad")},
		"long faces":   {faces("p", "abcd dcba efg gfe eee"), solidOf(points, "abc", "acd", "dcb", "dba", "efg", "gfe", "eee")},
	}
}

// P15.2: the solid of each kind, with each of the flags: the image behind it, and then all of it reversed.
func TestKnownSolids(t *testing.T) {
	for what, c := range known() {
		for i, want := range []api.Solid{c.want, slices.Concat(c.want, image(c.want)), turned(c.want), turned(slices.Concat(c.want, image(c.want)))} {
			p := flagged(c.p, i&1 > 0, i&2 > 0)
			d := describe(box("before", "0 0 0", "1 1 1"), p, box("behind", "0 0 0", "1 1 1"))
			if got, e := Part(d, "p"); e != api.OK || !slices.Equal(got, want) {
				t.Errorf("%s, flags %d: %v instead of %v, %d", what, i, got, want, e)
			}
			if got, e := Build(describe(p)); e != api.OK || !slices.Equal(got, want) {
				t.Errorf("%s, flags %d: %v is built instead of %v, %d", what, i, got, want, e)
			}
			unit := need[api.Solid](t)(mesh.Box(point("0 0 0"), point("1 1 1")))
			if got, e := Build(d); e != api.OK || !slices.Equal(got, slices.Concat(unit, want, unit)) {
				t.Errorf("%s, flags %d, between boxes: %v, %d", what, i, got, e)
			}
		}
	}
}

// P15.2: the triangles of each part, in order, and no others.
func TestBuild(t *testing.T) {
	for _, d := range samples() {
		var want api.Solid
		for _, p := range d.Parts {
			want = append(want, need[api.Solid](t)(Part(d, p.Name))...)
		}
		if got, e := Build(d); e != api.OK || !slices.Equal(got, want) {
			t.Errorf("%v: %v instead of %v, %d", d, got, want, e)
		}
	}
}

// volume is that of a solid, six times.
func volume(s api.Solid) *big.Rat {
	rat := func(x api.Rat) *big.Rat {
		n, _ := new(big.Rat).SetString(string(x))
		return n
	}
	sum := new(big.Rat)
	for _, t := range s {
		for i := range 3 {
			a, b, c := t[i], t[(i+1)%3], t[(i+2)%3]
			product := new(big.Rat).Mul(rat(a.X), rat(b.Y))
			sum.Add(sum, product.Mul(product, rat(c.Z)))
			product = new(big.Rat).Mul(rat(a.X), rat(c.Y))
			sum.Sub(sum, product.Mul(product, rat(b.Z)))
		}
	}
	return sum
}

// P15.2: an image doubles the volume, minus takes it away.
func TestVolumes(t *testing.T) {
	for what, c := range known() {
		whole := volume(need[api.Solid](t)(Build(describe(c.p))))
		for i, factor := range []int64{1, 2, -1, -2} {
			got := volume(need[api.Solid](t)(Build(describe(flagged(c.p, i&1 > 0, i&2 > 0)))))
			if want := new(big.Rat).Mul(whole, big.NewRat(factor, 1)); got.Cmp(want) != 0 {
				t.Errorf("%s, flags %d: the volume is %v instead of %v", what, i, got, want)
			}
		}
	}
	for text, want := range map[string]int64{"box hull 0 0 0 to 3 2 1\n": 36, "box hull 0 0 0 to 3 2 1 mirror\n": 72, "box hull 0 0 0 to 3 2 1 minus\n": -36} {
		d, _, e := Parse(text)
		if got := volume(need[api.Solid](t)(Build(d))); e != api.OK || got.Cmp(big.NewRat(want, 1)) != 0 {
			t.Errorf("%q: the volume is %v, six times, %d", text, got, e)
		}
	}
}

// P15.4: what is built is closed. Of solids that are not, nothing is built.
func TestClosedSolids(t *testing.T) {
	source := rand.New(rand.NewSource(4))
	all := samples()
	for range 300 {
		all = append(all, randomDescription(source))
	}
	built := 0
	for _, d := range all {
		s, e := Build(d)
		if e != api.OK && s != nil {
			t.Errorf("%v: %v, %d", d, s, e)
		}
		if e == api.OK && len(s) > 0 {
			built++
		}
		if e := mesh.Check(s); e != api.OK {
			t.Errorf("%v: %v has the error %d", d, s, e)
		}
	}
	if built < 50 {
		t.Errorf("only %d were built", built)
	}
}

// P15.3, P15.4: the new name in all faces, and nowhere else; the solid stays, and so does the text, if the name is changed back.
func TestRename(t *testing.T) {
	source := rand.New(rand.NewSource(5))
	all := append(samples(), greatest())
	for range 100 {
		all = append(all, randomDescription(source))
	}
	for _, d := range all {
		for i, p := range d.Points[:min(len(d.Points), 9)] {
			want := normal(d)
			want.Points[i].Name = "new"
			for _, part := range want.Parts {
				for _, face := range part.Faces {
					for k, name := range face {
						if name == p.Name {
							face[k] = "new"
						}
					}
				}
			}
			got, e := Rename(d, p.Name, "new")
			if e != api.OK || !reflect.DeepEqual(normal(got), want) {
				t.Errorf("%v, %q: %v instead of %v, %d", d, p.Name, got, want, e)
			}
			before, e := Build(d)
			if behind, f := Build(got); f != e || !slices.Equal(before, behind) {
				t.Errorf("%v, %q: the solid is %v instead of %v", d, p.Name, behind, before)
			}
			if again, e := Rename(got, "new", p.Name); e != api.OK || !reflect.DeepEqual(normal(again), normal(d)) {
				t.Errorf("%v, %q: %v comes back, %d", d, p.Name, again, e)
			}
		}
	}
}

// P15.3: a name that faces cannot have in a text, and one that a part has, are names as others are.
func TestRenameToOtherNames(t *testing.T) {
	d := three(api.PartFaces)
	for _, name := range slices.Concat([]string{"along", "mirror", "minus", "m", "l", "n", "A", "a."}, rightNames[1:]) {
		got, e := Rename(d, "a", name)
		if e != api.OK || got.Points[0].Name != name || got.Parts[1].Faces[0][0] != name || got.Parts[2].Faces[0][0] != name || got.Parts[0].Name != "l" {
			t.Errorf("%q: %v, %d", name, got, e)
		}
	}
	parts := describe(prism("a", "abc", "0 0 1"))
	if got, e := Rename(parts, "a", "new"); e != api.OK || got.Parts[0].Name != "a" || got.Parts[0].Faces[0][0] != "new" {
		t.Errorf("a part with the name of a point: %v, %d", got, e)
	}
}

// P15.2, section Errors: solids of as many triangles as there may be, and of more.
func TestTrianglesOfParts(t *testing.T) {
	var points []api.Named
	var face []string
	for i := range 256 {
		n := strconv.Itoa(i)
		points = append(points, api.Named{Name: "p" + n, At: point(n + " 0 " + n)})
		face = append(face, "p"+n)
	}
	back := slices.Clone(face)
	slices.Reverse(back)
	along := func(count int) api.Part {
		return api.Part{Name: "p", Kind: api.PartPrism, Faces: [][]string{face[:count]}, Along: point("0 1 0")}
	}
	sides := func(faces ...[]string) api.Part { return api.Part{Name: "p", Kind: api.PartFaces, Faces: faces} }
	point := []string{"p0", "p0", "p0"}
	for what, c := range map[string]struct {
		p     api.Part
		count int
		e     api.Errno
	}{
		"a prism of 129 points":               {along(129), 512, api.OK},
		"a prism of 130 points":               {along(130), 0, api.ErrTooLarge},
		"a prism of 256 points":               {along(256), 0, api.ErrTooLarge},
		"a prism of 65 points, twice":         {flagged(along(65), true, true), 512, api.OK},
		"a prism of 66 points, twice":         {flagged(along(66), true, false), 0, api.ErrTooLarge},
		"a prism of 66 points, turned":        {flagged(along(66), false, true), 260, api.OK},
		"two faces of 256 points":             {sides(face, back), 508, api.OK},
		"two faces and four points":           {sides(face, back, point, point, point, point), 512, api.OK},
		"two faces and five points":           {sides(face, back, point, point, point, point, point), 0, api.ErrTooLarge},
		"a face and what is open":             {sides(face), 0, api.ErrOpen},
		"faces, open and too large":           {sides(face, face, face), 0, api.ErrTooLarge},
		"two faces, twice":                    {flagged(sides(face, back), true, false), 0, api.ErrTooLarge},
		"two faces of 130 points, twice":      {flagged(sides(face[:130], back[126:]), true, false), 512, api.OK},
		"two faces of 131 points, twice":      {flagged(sides(face[:131], back[125:]), true, true), 0, api.ErrTooLarge},
		"512 triangles":                       {sides(slices.Repeat([][]string{point}, 512)...), 512, api.OK},
		"a face and many":                     {sides(slices.Repeat([][]string{face, back}, 256)...), 0, api.ErrTooLarge},
		"what is open, with its image":        {flagged(sides(face[:3], face[:3]), true, false), 0, api.ErrOpen},
		"too large only behind its triangles": {flagged(sides(face, back, point), true, true), 0, api.ErrTooLarge},
	} {
		d := api.Description{Points: points, Parts: []api.Part{c.p}}
		if got, e := Part(d, "p"); e != c.e || len(got) != c.count {
			t.Errorf("%s: %d triangles, the error %d instead of %d", what, len(got), e, c.e)
		}
		if got, e := Build(d); e != c.e || len(got) != c.count {
			t.Errorf("%s: %d triangles are built, the error %d instead of %d", what, len(got), e, c.e)
		}
	}
}
