package shape

import (
	"math/rand"
	"slices"
	"strings"
	"testing"

	"garboard/api"
)

// P15.1: descriptions that are right.
func TestRightDescriptions(t *testing.T) {
	source := rand.New(rand.NewSource(1))
	all := append(samples(), greatest())
	for range 200 {
		all = append(all, randomDescription(source))
	}
	for _, d := range all {
		if e := Check(d); e != api.OK {
			t.Errorf("%v: the error %d", d, e)
		}
	}
}

// P15.1: names by their form, of points, of parts, and of both at once.
func TestNames(t *testing.T) {
	for names, want := range map[*[]string]api.Errno{&rightNames: api.OK, &wrongNames: api.ErrName} {
		for _, name := range *names {
			p := box("b", "0 0 0", "1 1 1")
			p.Name = name
			for i, d := range []api.Description{onePoint(api.Named{Name: name, At: point("0 0 0")}), {Parts: []api.Part{p}}, {Points: named("q 0 0 0"), Parts: []api.Part{box("b", "0 0 0", "1 1 1"), p}}} {
				if e := Check(d); e != want && !(i == 2 && name == "b") {
					t.Errorf("%q at %d: the error %d", name, i, e)
				}
			}
		}
	}
	for b := range 256 {
		isLetter := b >= 'a' && b <= 'z' || b >= 'A' && b <= 'Z'
		isOther := b >= '0' && b <= '9' || b == '.' || b == '_' || b == '-'
		for text, isRight := range map[string]bool{string([]byte{byte(b)}): isLetter, string([]byte{'x', byte(b)}): isLetter || isOther, string([]byte{'x', byte(b), 'x'}): isLetter || isOther} {
			if e := Check(onePoint(api.Named{Name: text, At: point("0 0 0")})); (e == api.OK) != isRight || !isRight && e != api.ErrName {
				t.Errorf("%q: the error %d", text, e)
			}
		}
	}
}

// fault is a change that makes a description wrong.
type fault struct {
	e      api.Errno
	what   string
	change func(d *api.Description)
}

// pointFaults are those of the second one of some points.
func pointFaults() []fault {
	return []fault{
		{api.ErrName, "name", func(d *api.Description) { d.Points[1].Name = "1" }},
		{api.ErrTwice, "twice", func(d *api.Description) { d.Points[1].Name = d.Points[0].Name }},
		{api.ErrArg, "number", func(d *api.Description) { d.Points[1].At.Z = "2/4" }},
	}
}

// partFaults are those of the part in the middle, which is of some kind.
func partFaults(kind int) []fault {
	addFace := func(d *api.Description, face ...string) {
		p := &d.Parts[1]
		p.Faces = append(slices.Clone(p.Faces), face)
	}
	out := []fault{
		{api.ErrName, "name", func(d *api.Description) { d.Parts[1].Name = "" }},
		{api.ErrTwice, "twice", func(d *api.Description) { d.Parts[1].Name = d.Parts[0].Name }},
		{api.ErrRange, "kind 0", func(d *api.Description) { d.Parts[1].Kind = 0 }},
		{api.ErrRange, "kind 4", func(d *api.Description) { d.Parts[1].Kind = 4 }},
		{api.ErrRange, "kind -1", func(d *api.Description) { d.Parts[1].Kind = -1 }},
		{api.ErrArg, "low", func(d *api.Description) { d.Parts[1].Low.X = "x" }},
		{api.ErrArg, "along", func(d *api.Description) { d.Parts[1].Along.Z = "-0" }},
	}
	short := func(d *api.Description) { d.Parts[1].Faces[0] = d.Parts[1].Faces[0][:2] }
	long := func(d *api.Description) {
		d.Parts[1].Faces[0] = slices.Concat(d.Parts[1].Faces[0], slices.Repeat([]string{"a"}, api.MaxPoints))
	}
	unknown := func(d *api.Description) {
		d.Parts[1].Faces[0] = append(slices.Clone(d.Parts[1].Faces[0]), "nobody")
	}
	mismatch := fault{api.ErrMismatch, "one more face", func(d *api.Description) { addFace(d, "a", "b", "c") }}
	switch kind {
	case api.PartBox:
		return append(out, mismatch)
	case api.PartPrism:
		return append(out, mismatch, fault{api.ErrTooLarge, "long", long}, fault{api.ErrNotFound, "unknown", unknown})
	}
	return append(out,
		fault{api.ErrTooLarge, "long", long},
		fault{api.ErrTooLarge, "long at the end", func(d *api.Description) { addFace(d, slices.Repeat([]string{"a"}, api.MaxPoints+1)...) }},
		fault{api.ErrTooLarge, "many", func(d *api.Description) {
			d.Parts[1].Faces = append(slices.Clone(d.Parts[1].Faces), slices.Repeat([][]string{{"a", "b", "c"}}, api.MaxTriangles)...)
		}},
		fault{api.ErrEmpty, "short", short},
		fault{api.ErrEmpty, "short at the end", func(d *api.Description) { addFace(d, "a", "nobody") }},
		fault{api.ErrEmpty, "nothing", func(d *api.Description) { addFace(d) }},
		fault{api.ErrNotFound, "unknown", unknown},
		fault{api.ErrNotFound, "unknown at the end", func(d *api.Description) { addFace(d, "a", "b", "c", "A") }},
	)
}

// three returns a description with a part of a kind between two others.
func three(kind int) api.Description {
	part := map[int]api.Part{api.PartBox: box("m", "0 0 0", "1 1 1"), api.PartPrism: prism("m", "abc", "1 0 0"), api.PartFaces: faces("m", tetrahedron)}[kind]
	return describe(box("l", "0 0 0", "1 1 1"), part, prism("n", "abc", "0 0 1"))
}

// P15.1: each fault alone, and each two of them in their order: of those that stand in one line of the chapter the error is the same.
func TestFaultsInOrder(t *testing.T) {
	for kind := api.PartBox; kind <= api.PartFaces; kind++ {
		all := append(pointFaults(), partFaults(kind)...)
		for i, first := range all {
			d := three(kind)
			first.change(&d)
			if e := Check(d); e != first.e {
				t.Errorf("kind %d, %s: the error %d instead of %d", kind, first.what, e, first.e)
			}
			for _, second := range all[i+1:] {
				if first.e == second.e || second.what == "short" {
					continue
				}
				d := three(kind)
				second.change(&d)
				first.change(&d)
				if e := Check(d); e != first.e {
					t.Errorf("kind %d, %s and %s: the error %d instead of %d", kind, first.what, second.what, e, first.e)
				}
			}
		}
	}
}

// P15.1: the first part with a fault counts, however late its fault stands in the list; so does the first point.
func TestFirstPartWithAFault(t *testing.T) {
	late := faces("f", "abz")
	early := box("1", "0 0 0", "1 1 1")
	if e := Check(describe(late, early)); e != api.ErrNotFound {
		t.Errorf("the late fault first: %d", e)
	}
	if e := Check(describe(early, late)); e != api.ErrName {
		t.Errorf("the early fault first: %d", e)
	}
	d := describe(early)
	d.Points[0].At.X, d.Points[1].Name = "", ""
	if e := Check(d); e != api.ErrArg {
		t.Errorf("the late fault of a point first: %d", e)
	}
	d.Points[0], d.Points[1] = d.Points[1], d.Points[0]
	if e := Check(d); e != api.ErrName {
		t.Errorf("the early fault of a point first: %d", e)
	}
}

// P15.1: the kinds and their vectors, of which each has to be valid or empty.
func TestVectorsOfParts(t *testing.T) {
	own := map[int][3]bool{api.PartBox: {true, true, false}, api.PartPrism: {false, false, true}, api.PartFaces: {false, false, false}}
	for kind, has := range own {
		for i := range 3 {
			for k := range 3 {
				for _, x := range append([]api.Rat{"0", "7/3"}, none...) {
					d := three(kind)
					p := &d.Parts[1]
					v := []*api.Vector{&p.Low, &p.High, &p.Along}[i]
					*[]*api.Rat{&v.X, &v.Y, &v.Z}[k] = x
					isRight := has[i] && !slices.Contains(none, x) || !has[i] && x == ""
					if e := Check(d); (e == api.OK) != isRight || !isRight && e != api.ErrArg {
						t.Errorf("kind %d, vector %d, coordinate %d, %q: the error %d", kind, i, k, x, e)
					}
				}
			}
			d := three(kind)
			p := &d.Parts[1]
			*[]*api.Vector{&p.Low, &p.High, &p.Along}[i] = api.Vector{X: "0", Y: "0", Z: "0"}
			if e := Check(d); (e == api.OK) != has[i] {
				t.Errorf("kind %d, vector %d is that to the origin: the error %d", kind, i, e)
			}
		}
	}
}

// P15.1: coordinates of points.
func TestVectorsOfPoints(t *testing.T) {
	for _, x := range none {
		for _, at := range []api.Vector{{X: x, Y: "0", Z: "0"}, {X: "0", Y: x, Z: "0"}, {X: "0", Y: "0", Z: x}} {
			if e := Check(onePoint(api.Named{Name: "a", At: at})); e != api.ErrArg {
				t.Errorf("%v: the error %d", at, e)
			}
		}
	}
}

// P15.1: how many faces a part may have. Empty lists are those that are not there.
func TestCountsOfFaces(t *testing.T) {
	for kind, right := range map[int][2]int{api.PartBox: {0, 0}, api.PartPrism: {1, 1}, api.PartFaces: {1, api.MaxTriangles}} {
		for _, count := range []int{0, 1, 2, 3, 511, 512, 513, 1000} {
			d := three(kind)
			d.Parts[1].Faces = slices.Repeat(facesOf("abc"), count)
			want := api.OK
			switch {
			case kind == api.PartFaces && count > right[1]:
				want = api.ErrTooLarge
			case count < right[0] || count > right[1]:
				want = api.ErrMismatch
			}
			if e := Check(d); e != want {
				t.Errorf("kind %d with %d faces: the error %d instead of %d", kind, count, e, want)
			}
		}
	}
	d := three(api.PartBox)
	d.Parts[1].Faces = [][]string{}
	if e := Check(d); e != api.OK {
		t.Errorf("no faces: the error %d", e)
	}
	d.Parts[1].Faces = [][]string{{}}
	if e := Check(d); e != api.ErrMismatch {
		t.Errorf("a face without names: the error %d", e)
	}
}

// P15.1: how many names a face may have, also if they are unknown.
func TestCountsOfNames(t *testing.T) {
	for _, kind := range []int{api.PartPrism, api.PartFaces} {
		for count, want := range map[int]api.Errno{0: api.ErrEmpty, 1: api.ErrEmpty, 2: api.ErrEmpty, 3: api.OK, 255: api.OK, 256: api.OK, 257: api.ErrTooLarge, 5000: api.ErrTooLarge} {
			d := three(kind)
			d.Parts[1].Faces[0] = slices.Repeat([]string{"a"}, count)
			if e := Check(d); e != want {
				t.Errorf("kind %d with %d names: the error %d instead of %d", kind, count, e, want)
			}
			d.Parts[1].Faces[0] = slices.Repeat([]string{"z"}, count)
			if want == api.OK {
				want = api.ErrNotFound
			}
			if e := Check(d); e != want {
				t.Errorf("kind %d with %d unknown names: the error %d instead of %d", kind, count, e, want)
			}
		}
	}
}

// P15.1: names that are not those of points: other ones, those of parts, and such without the form.
func TestUnknownNames(t *testing.T) {
	for _, name := range slices.Concat([]string{"m", "l", "A", "aa", "along", "/"}, wrongNames) {
		for _, kind := range []int{api.PartPrism, api.PartFaces} {
			d := three(kind)
			d.Parts[1].Faces[0] = append(slices.Clone(d.Parts[1].Faces[0]), name)
			if e := Check(d); e != api.ErrNotFound {
				t.Errorf("kind %d, %q: the error %d", kind, name, e)
			}
		}
	}
}

// P15.1: too much comes ahead of whatever there is.
func TestTooMuch(t *testing.T) {
	for _, wrong := range []bool{false, true} {
		most, one := greatest(), greatest()
		most.Points = append(most.Points, api.Named{Name: "one-more", At: point("0 0 0")})
		one.Parts = append(one.Parts, box("one-more", "0 0 0", "1 1 1"))
		if wrong {
			most.Points[0], one.Points[0], one.Parts[0] = api.Named{}, api.Named{}, api.Part{}
		}
		for _, d := range []api.Description{most, one, {Points: most.Points}, {Parts: one.Parts}, {Points: slices.Repeat(most.Points, 9), Parts: slices.Repeat(one.Parts, 9)}} {
			if e := Check(d); e != api.ErrTooLarge {
				t.Errorf("%d points and %d parts: the error %d", len(d.Points), len(d.Parts), e)
			}
		}
	}
}

// P15.1: two names that are the same but for the size of their letters, or longer, are different; points and parts can have one name.
func TestNamesThatAreAlike(t *testing.T) {
	d := api.Description{Points: named("a 0 0 0, A 0 0 0, aa 0 0 0, a. 0 0 0"), Parts: []api.Part{box("a", "0 0 0", "1 1 1"), box("A", "0 0 0", "1 1 1"), box("aa", "0 0 0", "1 1 1")}}
	if e := Check(d); e != api.OK {
		t.Errorf("the error %d", e)
	}
	long := strings.Repeat("n", 63)
	d = api.Description{Points: []api.Named{{Name: long + "a", At: point("0 0 0")}, {Name: long + "b", At: point("0 0 0")}, {Name: long + "a", At: point("0 0 0")}}}
	if e := Check(d); e != api.ErrTwice {
		t.Errorf("the first name again: the error %d", e)
	}
}
