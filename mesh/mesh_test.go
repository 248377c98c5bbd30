package mesh

import (
	"maps"
	"math/big"
	"math/rand"
	"slices"
	"testing"

	"garboard/api"
)

// P12.1
func TestCheck(t *testing.T) {
	body := box(t, "0 0 0", "1 1 1")
	flat := triangles(corners(), "abc acb")
	most := slices.Repeat(flat, api.MaxTriangles/2)
	bad := triangles(append(corners(), point("2/4 0 0")), "abc acb aaj")
	for _, c := range []struct {
		what string
		s    api.Solid
		want api.Errno
	}{
		{"nil", nil, api.OK}, {"the empty solid", api.Solid{}, api.OK}, {"a box", body, api.OK}, {"a tetrahedron", triangles(corners(), tetrahedron), api.OK},
		{"as many triangles as there may be", most, api.OK}, {"one more", append(slices.Clone(most), triangles(corners(), "aaa")...), api.ErrTooLarge}, {"two more", append(slices.Clone(most), flat...), api.ErrTooLarge}, {"one more without points", append(slices.Clone(most), api.Triangle{}), api.ErrTooLarge}, {"many that are open", slices.Repeat(flat[:1], api.MaxTriangles+1), api.ErrTooLarge},
		{"no points", api.Solid{{}}, api.ErrArg}, {"what is no number, and open", bad, api.ErrArg}, {"what is no number behind much", append(slices.Clone(most[:510]), bad[2]), api.ErrArg},
		{"a triangle", flat[:1], api.ErrOpen}, {"a box without a triangle", body[1:], api.ErrOpen}, {"a box with one more", append(slices.Clone(body), body[3]), api.ErrOpen}, {"a triangle twice", triangles(corners(), "abc abc"), api.ErrOpen}, {"turned triangles", triangles(corners(), "abc bca"), api.ErrOpen}, {"all edges, but one of them the wrong way", triangles(corners(), "acb abd bcd cda"), api.ErrOpen},
		{"another way round", triangles(corners(), "abc cba"), api.OK}, {"both ways twice", triangles(corners(), "abc abc acb cba"), api.OK}, {"both ways, but not as often", triangles(corners(), "abc abc acb"), api.ErrOpen}, {"one way three times", triangles(corners(), "abc abc abc acb acb"), api.ErrOpen}, {"four triangles at an edge", triangles(corners(), tetrahedron+" agb abi bgi gai"), api.OK}, {"three triangles at an edge", triangles(corners(), tetrahedron+" abi bgi gai"), api.ErrOpen},
		{"a point", triangles(corners(), "aaa"), api.OK}, {"edges there and back", triangles(corners(), "aab bba aba baa"), api.OK}, {"a line with a point in it", triangles(corners(), "aeb abe"), api.OK}, {"an edge that is divided on one side", triangles(corners(), "acb aed ebd bcd cad"), api.ErrOpen}, {"such an edge with a triangle in it", triangles(corners(), "acb abe aed ebd bcd cad"), api.OK},
	} {
		if e := Check(c.s); e != c.want {
			t.Errorf("%s: %d instead of %d", c.what, e, c.want)
		}
	}
}

// P12.1: closed solids that were damaged in one way or another.
func TestCheckOfRandomSolids(t *testing.T) {
	source := rand.New(rand.NewSource(1))
	closed, open := 0, 0
	for range 2000 {
		s := randomClosed(source)
		for range source.Intn(3) {
			i := source.Intn(len(s))
			switch source.Intn(5) {
			case 0:
				s = slices.Delete(s, i, i+1)
			case 1:
				s = append(s, s[i])
			case 2:
				s[i] = api.Triangle{s[i][0], s[i][2], s[i][1]}
			case 3:
				s[i] = api.Triangle{s[i][2], s[i][0], s[i][1]}
			default:
				s[i][source.Intn(3)] = s[source.Intn(len(s))][source.Intn(3)]
			}
		}
		if isClosedAsDefined(s) {
			closed++
			if e := Check(s); e != api.OK {
				t.Errorf("%v: %d", s, e)
			}
			continue
		}
		open++
		if e := Check(s); e != api.ErrOpen {
			t.Errorf("%v: %d", s, e)
		}
	}
	if closed < 500 || open < 500 {
		t.Errorf("%d were closed, and %d open", closed, open)
	}
}

// someSolids are solids of many kinds that are right.
func someSolids(t *testing.T) []api.Solid {
	t.Helper()
	var out []api.Solid
	for _, l := range []map[string]api.Solid{convexBodies(t), dentedBodies(t)} {
		for _, what := range slices.Sorted(maps.Keys(l)) {
			out = append(out, l[what])
		}
	}
	source := rand.New(rand.NewSource(2))
	for range 60 {
		out = append(out, randomClosed(source))
	}
	return out
}

// P12.2, P12.4: what comes out is closed, and its volume is that of before.
func TestMove(t *testing.T) {
	for _, s := range someSolids(t) {
		for _, v := range points("0 0 0, 1 0 0, 0 -1 0, 0 0 1/7, -3/2 5/11 123456789012345678901") {
			got, e := Move(s, v)
			if e != api.OK || len(got) != len(s) || Check(got) != api.OK || volume(got) != volume(s) {
				t.Errorf("%v moved by %v is %v, %d", s, v, got, e)
				continue
			}
			for i, triangle := range got {
				for k, p := range triangle {
					if want := made(plus(read(s[i][k]), read(v))); p != want {
						t.Errorf("%v moved by %v is %v instead of %v", s[i][k], v, p, want)
					}
				}
			}
		}
	}
}

// P12.2, P12.4: the volume has the opposite sign, and doing it twice changes nothing.
func TestReverse(t *testing.T) {
	for _, s := range someSolids(t) {
		got, e := Reverse(s)
		if e != api.OK || len(got) != len(s) || Check(got) != api.OK {
			t.Errorf("%v inside out is %v, %d", s, got, e)
			continue
		}
		for i, triangle := range got {
			if want := (api.Triangle{s[i][0], s[i][2], s[i][1]}); triangle != want {
				t.Errorf("%v inside out is %v", s[i], triangle)
			}
		}
		if sum := volume(cat(s, got)); sum != "0" {
			t.Errorf("%v and inside out are %s together", s, sum)
		}
		if again, e := Reverse(got); e != api.OK || !slices.Equal(again, s) {
			t.Errorf("%v twice inside out is %v, %d", s, again, e)
		}
	}
}

// P12.2, P12.4: the orientation stays, and doing it twice changes nothing.
func TestMirror(t *testing.T) {
	for _, s := range someSolids(t) {
		got, e := Mirror(s)
		if e != api.OK || len(got) != len(s) || Check(got) != api.OK || volume(got) != volume(s) {
			t.Errorf("the image of %v is %v, %d", s, got, e)
			continue
		}
		for i, triangle := range got {
			for k, p := range triangle {
				want := read(s[i][(3-k)%3])
				want[1].Neg(want[1])
				if p != made(want) {
					t.Errorf("the image of %v is %v", s[i], triangle)
				}
			}
		}
		if again, e := Mirror(got); e != api.OK || !slices.Equal(again, s) {
			t.Errorf("the image of the image of %v is %v, %d", s, again, e)
		}
	}
}

// P12.2, P12.4
func TestJoin(t *testing.T) {
	all := someSolids(t)
	for i, a := range all {
		b := all[len(all)-1-i]
		if got, e := Join(a, b); e != api.OK || !slices.Equal(got, cat(a, b)) || Check(got) != api.OK {
			t.Errorf("%v and %v are %v, %d", a, b, got, e)
		}
	}
	flat := triangles(corners(), "abc acb")
	most := slices.Repeat(flat, api.MaxTriangles/2)
	for _, c := range []struct {
		a, b api.Solid
		want api.Errno
	}{{nil, nil, api.OK}, {most, nil, api.OK}, {nil, most, api.OK}, {most[:510], flat, api.OK}, {most[:510], cat(flat, flat), api.ErrTooLarge}, {most, triangles(corners(), "aaa"), api.ErrTooLarge}, {triangles(corners(), "aaa"), most, api.ErrTooLarge}, {most, most, api.ErrTooLarge}} {
		if got, e := Join(c.a, c.b); e != c.want || e == api.OK && !slices.Equal(got, cat(c.a, c.b)) || e != api.OK && got != nil {
			t.Errorf("%d triangles and %d are %d, %d", len(c.a), len(c.b), len(got), e)
		}
	}
}

// P12.3
func TestPoints(t *testing.T) {
	l := corners()
	for s, want := range map[string]string{"": "", tetrahedron: "acbd", "aaa": "a", "hgh hhg": "hg", "ddd aaa": "da", "bca bac ddd bbb": "bcad"} {
		var expected []api.Vector
		for _, letter := range want {
			expected = append(expected, l[letter-'a'])
		}
		if got, e := Points(triangles(l, s)); e != api.OK || !slices.Equal(got, expected) {
			t.Errorf("the points of %s are %v, %d", s, got, e)
		}
	}
	for _, s := range someSolids(t) {
		var expected []api.Vector
		for _, triangle := range s {
			for _, p := range triangle {
				if !slices.Contains(expected, p) {
					expected = append(expected, p)
				}
			}
		}
		if got, e := Points(s); e != api.OK || !slices.Equal(got, expected) {
			t.Errorf("the points of %v are %v, %d", s, got, e)
		}
	}
	// Points that no two triangles have in common.
	var many api.Solid
	for i := range api.MaxTriangles {
		p := point(string(text(big.NewRat(int64(i), 7))) + " 0 0")
		many = append(many, api.Triangle{p, p, p})
	}
	if got, e := Points(many); e != api.OK || len(got) != api.MaxTriangles {
		t.Errorf("%d points, %d", len(got), e)
	}
}

// P12.3
func TestConvex(t *testing.T) {
	for what, s := range convexBodies(t) {
		if got, e := Convex(s); e != api.OK || !got {
			t.Errorf("%s: %v, %d", what, got, e)
		}
	}
	for what, s := range dentedBodies(t) {
		if got, e := Convex(s); e != api.OK || got {
			t.Errorf("%s: %v, %d", what, got, e)
		}
	}
}

// P12.3: with as many triangles as there may be. The last point of one of the polygons is in the middle of an edge, the other one a little farther inside.
func TestConvexOfGreatPrisms(t *testing.T) {
	for last, want := range map[string]bool{"127/6 16129/4 0": true, "127/6 4032249999/1000000 0": false} {
		s := need[api.Solid](t)(Prism(append(polygon(128), point(last)), point("1/7 1/11 2/3")))
		if got, e := Convex(s); len(s) != api.MaxTriangles || e != api.OK || got != want {
			t.Errorf("%d triangles, %v, %d", len(s), got, e)
		}
	}
}

// P12.3
func TestConvexOfRandomSolids(t *testing.T) {
	source := rand.New(rand.NewSource(3))
	found := map[bool]int{}
	for i := range 600 {
		s := triangles(randomPoints(source, 4), tetrahedron)
		if i%4 == 0 {
			s = randomClosed(source)
		}
		want := isConvexAsDefined(s)
		if got, e := Convex(s); e != api.OK || got != want {
			t.Errorf("%v: %v instead of %v, %d", s, got, want, e)
		}
		found[want]++
	}
	if found[true] < 100 || found[false] < 100 {
		t.Errorf("convex or not: %v", found)
	}
}

// P12.3
func TestShells(t *testing.T) {
	l := corners()
	body := box(t, "0 0 0", "1 1 1")
	for _, c := range []struct {
		what string
		s    api.Solid
		want int
	}{
		{"nothing", nil, 0}, {"a box", body, 1}, {"a tetrahedron", triangles(l, tetrahedron), 1}, {"the same twice", cat(body, body), 1}, {"two beside each other", cat(body, box(t, "2 0 0", "3 1 1")), 2}, {"one in another one", cat(body, box(t, "1/4 1/4 1/4", "1/2 1/2 1/2")), 2},
		{"boxes with a corner in common", cat(body, box(t, "1 1 1", "2 2 2")), 1}, {"boxes that touch without such a corner", cat(body, box(t, "1 1/2 1/2", "2 2 2")), 2}, {"three in a row", cat(body, box(t, "2 2 2", "3 3 3"), box(t, "1 1 1", "2 2 2")), 1}, {"two of three", cat(body, box(t, "2 2 2", "3 3 3"), box(t, "-1 -1 -1", "0 0 0")), 2},
		{"a point", triangles(l, "aaa"), 1}, {"points", triangles(l, "aaa bbb aaa ccc"), 3}, {"joined in the end", triangles(l, "aaa bbb ccc ddd aba cdc bcb"), 1}, {"joined in turn", triangles(l, "aaa bbb ccc ddd cdc aba ddd bbb"), 2}, {"all by the last one", triangles(l, "aaa bbb ccc abc acb"), 1},
	} {
		if got, e := Shells(c.s); e != api.OK || got != c.want {
			t.Errorf("%s: %d instead of %d, %d", c.what, got, c.want, e)
		}
	}
	source := rand.New(rand.NewSource(4))
	found := map[int]int{}
	for range 400 {
		s := randomClosed(source)
		source.Shuffle(len(s), func(i, k int) { s[i], s[k] = s[k], s[i] })
		want := shellsAsDefined(s)
		if got, e := Shells(s); e != api.OK || got != want {
			t.Errorf("%v: %d instead of %d, %d", s, got, want, e)
		}
		found[want]++
	}
	if found[1] < 50 || found[2] < 50 || found[3] < 20 {
		t.Errorf("numbers of shells: %v", found)
	}
}

// P12.4: the order of the triangles, and which point is the first one, do not matter.
func TestOrderDoesNotMatter(t *testing.T) {
	source := rand.New(rand.NewSource(5))
	for _, s := range someSolids(t) {
		other := slices.Clone(s)
		source.Shuffle(len(other), func(i, k int) { other[i], other[k] = other[k], other[i] })
		for i, triangle := range other {
			k := source.Intn(3)
			other[i] = api.Triangle{triangle[k], triangle[(k+1)%3], triangle[(k+2)%3]}
		}
		if e := Check(other); e != api.OK {
			t.Errorf("%v: %d", other, e)
		}
		first, _ := Convex(s)
		if second, e := Convex(other); e != api.OK || second != first {
			t.Errorf("%v: %v, %d", other, second, e)
		}
		count, _ := Shells(s)
		if got, e := Shells(other); e != api.OK || got != count {
			t.Errorf("%v: %d shells, %d", other, got, e)
		}
		if len(s) > 0 && source.Intn(2) == 0 {
			if e := Check(other[1:]); (e == api.OK) != isClosedAsDefined(other[1:]) {
				t.Errorf("%v: %d", other[1:], e)
			}
		}
	}
}
