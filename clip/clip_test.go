package clip

import (
	"fmt"
	"math/big"
	"math/rand"
	"slices"
	"testing"

	"garboard/api"
	"garboard/mesh"
	"garboard/vector"
)

// P13.1: solids by planes, with what comes out. The points d and e are in the middle of the edges from a, and f is in that from b to c.
func TestKnownParts(t *testing.T) {
	l := points("0 0 2, 2 0 0, 0 2 0, 1 0 1, 0 1 1, 1 1 0, 0 0 0, 0 0 1, 5 0 2, 7 0 0, 5 2 0, 6 0 1, 5 1 1")
	for _, c := range []struct{ s, p, below, above, section string }{
		// Triangles, each with its back, have no caps. Whichever point comes first, the one that is alone is a.
		{"abc acb", "0 0 1 1", "dbc dce ecb ebd", "ade aed", "de ed"},
		{"bca cba", "0 0 1 1", "dbc dce ecb ebd", "ade aed", "de ed"},
		{"cab bac", "0 0 5 5", "dbc dce ecb ebd", "ade aed", "de ed"},
		{"abc acb", "0 0 -1 -1", "ade aed", "dbc dce ecb ebd", "ed de"},
		{"bca cba", "0 0 -1/7 -1/7", "ade aed", "dbc dce ecb ebd", "ed de"},
		// Two points in the plane, and the third one above or below.
		{"abc acb", "0 0 1 0", "bbc bcc ccb cbb", "abc acb", "bc cb"},
		{"abc acb", "0 0 -1 0", "abc acb", "", ""},
		// One point in the plane, and the others on one side, or on both.
		{"abc acb", "0 0 1 2", "abc acb", "", ""},
		{"abc acb", "0 0 -1 -2", "aaa aaa", "abc aca acb aba", ""},
		{"cab cba", "0 0 -1 -2", "aaa aaa", "abc aca acb aba", ""},
		{"dbc dcb", "1 0 0 1", "fcd fdd ddc dcf", "bfd bdf", "fd df"},
		// All in the plane, or beside it.
		{"abc acb", "1 1 1 2", "abc acb", "", ""},
		{"abc acb", "-1 -1 -1 -2", "abc acb", "", ""},
		{"bca bac", "0 0 1 9", "bca bac", "", ""},
		{"bca bac", "0 0 1 -9", "", "bca bac", ""},
		{"", "0 0 1 1", "", "", ""},
		// A line, and points.
		{"aab aba", "0 0 1 1", "bdd bdd", "daa dad daa dad", ""},
		{"aaa bbb ddd", "0 0 1 1", "bbb ddd", "aaa", ""},
		// A tetrahedron, whose caps have the one edge that does not begin or end at the first point.
		{"gcb gba bca cga", "0 0 1 1", "gcb hgb hbd dbc dce ecg egh hde", "ahd ade aeh hed", "hd de eh"},
		// Two sections that do not meet have one cap.
		{"abc acb ijk ikj", "0 0 1 1", "dbc dce ecb ebd ljk lkm mkj mjl dlm dml", "ade aed ilm iml dml dlm", "de ed lm ml"},
		{"ijk ikj acb abc", "0 0 1 1", "ljk lkm mkj mjl ecb ebd dbc dce led lde", "ilm iml aed ade lde led", "lm ml ed de"},
	} {
		s, p := triangles(l, c.s), plane(c.p)
		below, e := Below(s, p)
		above, f := Above(s, p)
		section, g := Section(s, p)
		if e != api.OK || f != api.OK || g != api.OK || !slices.Equal(below, triangles(l, c.below)) || !slices.Equal(above, triangles(l, c.above)) || !slices.Equal(section, segments(l, c.section)) {
			t.Errorf("%s by %s: %v, %d, %v, %d, %v, %d", c.s, c.p, below, e, above, f, section, g)
		}
	}
}

// The chapter's examples.
func TestExamples(t *testing.T) {
	body := box(t, "0 0 0", "2 1 1")
	half := plane("0 0 1 1/2")
	below, e := Below(body, half)
	above, f := Above(body, half)
	section, g := Section(body, half)
	if e != api.OK || f != api.OK || g != api.OK || mesh.Check(below) != api.OK || mesh.Check(above) != api.OK || len(section) != 8 {
		t.Errorf("the box at z = 1/2: %v, %d, %v, %d, %v, %d", below, e, above, f, section, g)
	}
	begin := map[api.Vector]int{}
	for _, edge := range section {
		begin[edge[0]]++
	}
	if len(begin) != 8 {
		t.Errorf("the section at z = 1/2 has %d points", len(begin))
	}
	whole, e := Below(body, plane("0 0 1 1"))
	empty, f := Section(body, plane("0 0 1 1"))
	if e != api.OK || f != api.OK || !slices.Equal(whole, body) || len(empty) != 0 {
		t.Errorf("the box at z = 1: %v, %d, %v, %d", whole, e, empty, f)
	}
}

// P13.1: solids of many kinds, by planes through none or several of their points. Numbers that are long are cut as others are.
func TestPartsAndSections(t *testing.T) {
	found := map[string]int{}
	each(t, func(s api.Solid, p api.Plane) {
		want := cutAsDefined(s, p)
		below, e := Below(s, p)
		above, f := Above(s, p)
		section, g := Section(s, p)
		if e != api.OK || f != api.OK || g != api.OK || !slices.Equal(below, want.below) || !slices.Equal(above, want.above) || !slices.Equal(section, want.section) {
			t.Errorf("%v by %v: %v, %d, %v, %d, %v, %d", s, p, below, e, above, f, section, g)
		}
		found[fmt.Sprint(len(below) > 0, len(above) > 0, len(section) > 0)]++
	})
	for _, kind := range []string{"true true true", "true true false", "true false false", "false true false"} {
		if found[kind] < 10 {
			t.Errorf("kinds of parts: %v", found)
		}
	}
}

// P13.3: both parts are closed, and on their sides; the section is closed, and in the plane; nothing gets lost; cutting the part below again changes nothing.
func TestPropertiesOfParts(t *testing.T) {
	each(t, func(s api.Solid, p api.Plane) {
		below, above, section := sure(Below(s, p)), sure(Above(s, p)), sure(Section(s, p))
		if mesh.Check(below) != api.OK || mesh.Check(above) != api.OK {
			t.Errorf("%v by %v: %v and %v are not closed", s, p, below, above)
		}
		for _, a := range sure(mesh.Points(below)) {
			if sure(vector.Side(p, a)) > 0 {
				t.Errorf("%v by %v: the part below has %v", s, p, a)
			}
		}
		for _, a := range sure(mesh.Points(above)) {
			if sure(vector.Side(p, a)) < 0 {
				t.Errorf("%v by %v: the part above has %v", s, p, a)
			}
		}
		more := map[api.Vector]int{}
		for _, edge := range section {
			more[edge[0]]++
			more[edge[1]]--
		}
		for a, n := range more {
			if n != 0 || sure(vector.Side(p, a)) != 0 {
				t.Errorf("%v by %v: the section %v is not closed, or not in the plane, at %v", s, p, section, a)
			}
		}
		if sum := new(big.Rat).Add(volume(below), volume(above)); sum.Cmp(volume(s)) != 0 {
			t.Errorf("%v by %v: the volume is %v instead of %v", s, p, sum, volume(s))
		}
		again, e := Below(below, p)
		if rest := sure(Section(below, p)); e != api.OK || !slices.Equal(again, below) || len(rest) != 0 {
			t.Errorf("%v by %v: again it is %v, %d", s, p, again, e)
		}
	})
}

// sure returns a result; an error shows by its being zero.
func sure[T any](result T, _ api.Errno) T { return result }

// P13.3
func TestConvexParts(t *testing.T) {
	source := rand.New(rand.NewSource(3))
	cut := 0
	for _, s := range convexBodies(t) {
		for _, p := range somePlanes(t, source, s) {
			below := sure(Below(s, p))
			if is, e := mesh.Convex(below); e != api.OK || !is {
				t.Errorf("%v by %v: %v is not convex, %d", s, p, below, e)
			}
			if volume(below).Sign() < 0 || volume(below).Cmp(volume(s)) > 0 {
				t.Errorf("%v by %v: %v has the volume %v", s, p, below, volume(below))
			}
			if len(sure(Section(s, p))) > 0 {
				cut++
			}
		}
	}
	if cut < 20 {
		t.Errorf("only %d were cut", cut)
	}
}

// P13.3: the moved solid by the moved plane. The same plane can be written in many ways.
func TestMovedParts(t *testing.T) {
	v := point("-7/3 5 1/11")
	each(t, func(s api.Solid, p api.Plane) {
		c := new(big.Rat).Add(rat(p.C), dotted(read(p.N), read(v)))
		moved, by := need[api.Solid](t)(mesh.Move(s, v)), api.Plane{N: p.N, C: text(c)}
		longer := api.Plane{N: sure(vector.Scale(p.N, "9/7")), C: text(c.Mul(big.NewRat(9, 7), rat(p.C)))}
		for i, part := range []func(api.Solid, api.Plane) (api.Solid, api.Errno){Below, Above} {
			want := sure(part(s, p))
			if got, e := part(moved, by); e != api.OK || !slices.Equal(got, sure(mesh.Move(want, v))) {
				t.Errorf("%v by %v, moved: the part %d is %v, %d", s, p, i, got, e)
			}
			if got, e := part(s, longer); e != api.OK || !slices.Equal(got, want) {
				t.Errorf("%v by %v: the part %d is %v, %d", s, longer, i, got, e)
			}
		}
	})
}

// P13.1: the volumes of corners of boxes and tetrahedra.
func TestVolumesOfParts(t *testing.T) {
	body, pyramid := box(t, "0 0 0", "1 1 1"), triangles(corners(), tetrahedron)
	for _, c := range []struct {
		s            api.Solid
		p            string
		below, above api.Rat
	}{
		{body, "1 1 1 1", "1/6", "5/6"}, {body, "1 1 1 3/2", "1/2", "1/2"}, {body, "-1 -1 -1 -2", "1/6", "5/6"}, {body, "1 0 0 1/3", "1/3", "2/3"}, {body, "0 -1 0 -1/3", "2/3", "1/3"}, {body, "1 1 0 1", "1/2", "1/2"}, {body, "0 2 0 2", "1", "0"}, {body, "0 0 1 0", "0", "1"}, {body, "2 1 0 1", "1/4", "3/4"},
		{pyramid, "0 0 1 1", "7/6", "1/6"}, {pyramid, "-1 0 0 -1/5", "243/250", "271/750"}, {pyramid, "1 1 1 1", "1/6", "7/6"}, {pyramid, "1 1 1 2", "4/3", "0"}, {pyramid, "1 -1 0 0", "2/3", "2/3"},
	} {
		below, above := sure(Below(c.s, plane(c.p))), sure(Above(c.s, plane(c.p)))
		if text(volume(below)) != c.below || text(volume(above)) != c.above {
			t.Errorf("%v by %s: the volumes are %v and %v", c.s, c.p, volume(below), volume(above))
		}
	}
}

// P13.2
func TestBetween(t *testing.T) {
	body := box(t, "0 0 0", "2 1 1")
	for _, c := range []struct {
		n      string
		a, b   api.Rat
		volume api.Rat
	}{{"1 0 0", "1/2", "1", "1/2"}, {"1 0 0", "-5", "1/3", "1/3"}, {"1 0 0", "3/2", "99", "1/2"}, {"1 0 0", "-9", "9", "2"}, {"1 0 0", "2", "3", "0"}, {"1 0 0", "-1", "0", "0"}, {"0 -2 0", "-1", "0", "1"}, {"1 1 1", "1", "3", "5/3"}} {
		got, e := Between(body, point(c.n), c.a, c.b)
		if e != api.OK || mesh.Check(got) != api.OK || text(volume(got)) != c.volume {
			t.Errorf("from %s to %s along %s: %v, %d", c.a, c.b, c.n, got, e)
		}
	}
	source := rand.New(rand.NewSource(4))
	each(t, func(s api.Solid, p api.Plane) {
		l := []*big.Rat{rat(p.C), big.NewRat(source.Int63n(9)-4, 1+source.Int63n(3))}
		slices.SortFunc(l, (*big.Rat).Cmp)
		a, b := text(l[0]), text(l[1])
		got, e := Between(s, p.N, a, b)
		if a == b {
			if e != api.ErrRange || got != nil {
				t.Errorf("from %s to %s: %v, %d", a, b, got, e)
			}
			return
		}
		want := cutAsDefined(cutAsDefined(s, api.Plane{N: p.N, C: b}).below, api.Plane{N: p.N, C: a}).above
		if e != api.OK || !slices.Equal(got, want) {
			t.Errorf("%v from %s to %s along %v: %v instead of %v, %d", s, a, b, p.N, got, want, e)
		}
	})
}

// P13.2
func TestSlices(t *testing.T) {
	source := rand.New(rand.NewSource(5))
	each(t, func(s api.Solid, p api.Plane) {
		l := []api.Rat{p.C}
		for range source.Intn(4) {
			l = append(l, text(kinds[source.Intn(len(kinds))](source)), p.C)
		}
		got, e := Slices(s, p.N, l)
		if e != api.OK || len(got) != len(l) {
			t.Errorf("%v along %v: %v, %d", s, p.N, got, e)
			return
		}
		for i, x := range l {
			if want := cutAsDefined(s, api.Plane{N: p.N, C: x}).section; !slices.Equal(got[i], want) {
				t.Errorf("%v along %v at %s: %v instead of %v", s, p.N, x, got[i], want)
			}
		}
	})
	body := box(t, "0 0 0", "2 1 1")
	for count := range api.MaxStations + 1 {
		var l []api.Rat
		for i := range count {
			l = append(l, text(big.NewRat(int64(i), 16)))
		}
		got, e := Slices(body, point("1 0 0"), l)
		if e != api.OK || len(got) != count {
			t.Errorf("%d sections, %d", len(got), e)
		}
		for i, section := range got {
			if want := sure(Section(body, api.Plane{N: point("1 0 0"), C: l[i]})); !slices.Equal(section, want) || len(section) != 8 && i > 0 && i < 32 {
				t.Errorf("at %s: %v instead of %v", l[i], section, want)
			}
		}
	}
}
