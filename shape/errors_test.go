package shape

import (
	"math/rand"
	"reflect"
	"slices"
	"strings"
	"sync"
	"testing"

	"garboard/api"
)

// answer is what a function returned. Line is that of Parse, and -1 for the others.
type answer struct {
	Text        string
	Description api.Description
	Solid       api.Solid
	Line        int
	Error       api.Errno
}

func text(s string, e api.Errno) answer      { return answer{Text: s, Line: -1, Error: e} }
func solids(s api.Solid, e api.Errno) answer { return answer{Solid: s, Line: -1, Error: e} }
func described(d api.Description, e api.Errno) answer {
	return answer{Description: d, Line: -1, Error: e}
}
func parsed(d api.Description, line int, e api.Errno) answer {
	return answer{Description: d, Line: line, Error: e}
}

// askAll calls every function but Check and Parse, which take no part in most errors.
func askAll(d api.Description, name, other string) []answer {
	return []answer{text(Print(d)), solids(Part(d, name)), solids(Build(d)), described(Rename(d, name, other))}
}

// expect checks that there is nothing but an error.
func expect(t *testing.T, what any, e api.Errno, answers ...answer) {
	t.Helper()
	for i, got := range answers {
		if !reflect.DeepEqual(got, answer{Line: -1, Error: e}) {
			t.Errorf("%v: answer %d is %v instead of the error %d", what, i, got, e)
		}
	}
}

// wrong returns descriptions that are not right, one for each fault.
func wrong() []api.Description {
	var out []api.Description
	for kind := api.PartBox; kind <= api.PartFaces; kind++ {
		for _, f := range append(pointFaults(), partFaults(kind)...) {
			d := three(kind)
			f.change(&d)
			out = append(out, d)
		}
	}
	points, parts := greatest(), greatest()
	points.Points = append(points.Points, api.Named{Name: "one-more", At: point("0 0 0")})
	parts.Parts = append(parts.Parts, box("one-more", "0 0 0", "1 1 1"))
	return append(out, points, parts)
}

// Section Errors: descriptions that are not right come ahead of all names, and of solids that cannot be built.
func TestDescriptionsThatAreNotRight(t *testing.T) {
	for _, d := range wrong() {
		if Check(d) == api.OK {
			t.Errorf("%v is right", d)
		}
		d.Parts = append(slices.Clone(d.Parts), box("flat", "0 0 0", "0 0 0"))
		for _, names := range [][2]string{{"a", "b"}, {"a", "a"}, {"m", "1"}, {"nobody", "new"}, {"", ""}, {"flat", "x y"}} {
			expect(t, d, api.ErrArg, askAll(d, names[0], names[1])...)
		}
	}
}

// Section Errors: names of parts that are not there. Those of points do not count.
func TestPartsThatAreNotThere(t *testing.T) {
	d := describe(box("l", "0 0 0", "1 1 1"), box("flat", "0 0 0", "0 0 0"), faces("m", tetrahedron))
	for _, name := range slices.Concat([]string{"a", "b", "L", "ll", "l ", " l", "nobody", "box"}, wrongNames) {
		expect(t, name, api.ErrNotFound, solids(Part(d, name)))
	}
	for _, name := range []string{"a", "", "l"} {
		expect(t, name, api.ErrNotFound, solids(Part(api.Description{}, name)), solids(Part(describe(), name)))
	}
}

// Section Errors: parts that cannot be built, with each of the flags.
func TestPartsWithoutASolid(t *testing.T) {
	for _, c := range []struct {
		p api.Part
		e api.Errno
	}{
		{box("p", "0 0 0", "0 0 0"), api.ErrRange}, {box("p", "0 0 0", "0 1 1"), api.ErrRange}, {box("p", "0 0 0", "1 0 1"), api.ErrRange}, {box("p", "0 0 0", "1 1 0"), api.ErrRange}, {box("p", "1 1 1", "0 0 0"), api.ErrRange}, {box("p", "0 1/2 0", "1 1/3 1"), api.ErrRange},
		{faces("p", "abc"), api.ErrOpen}, {faces("p", "abc abc"), api.ErrOpen}, {faces("p", "acb abd bcd"), api.ErrOpen}, {faces("p", "abcd"), api.ErrOpen}, {faces("p", "abcd dcb dba abc"), api.ErrOpen},
	} {
		for i := range 4 {
			p := flagged(c.p, i&1 > 0, i&2 > 0)
			expect(t, p, c.e, solids(Part(describe(p), "p")), solids(Build(describe(p))), solids(Build(describe(box("b", "0 0 0", "1 1 1"), p))))
		}
	}
}

// many returns a part of some triangles without area.
func many(name string, count int) api.Part {
	return api.Part{Name: name, Kind: api.PartFaces, Faces: slices.Repeat([][]string{{"a", "a", "a"}}, count)}
}

// Section Errors: the error of the first part with one comes ahead of what is too large together.
func TestErrorsOfSeveralParts(t *testing.T) {
	flat, open := box("flat", "0 0 0", "0 0 0"), faces("open", "abc")
	large := flagged(many("large", 300), true, false)
	for _, c := range []struct {
		parts []api.Part
		e     api.Errno
	}{
		{[]api.Part{flat, open, large}, api.ErrRange}, {[]api.Part{open, flat}, api.ErrOpen}, {[]api.Part{large, flat}, api.ErrTooLarge}, {[]api.Part{open, large}, api.ErrOpen}, {[]api.Part{many("b", 9), flat, open}, api.ErrRange},
		{[]api.Part{many("b", 300), many("c", 300)}, api.ErrTooLarge}, {[]api.Part{many("b", 300), many("c", 300), flat}, api.ErrRange}, {[]api.Part{many("b", 512), many("c", 512), many("d", 512), open}, api.ErrOpen}, {[]api.Part{many("b", 512), many("c", 1)}, api.ErrTooLarge}, {[]api.Part{many("b", 1), many("c", 512)}, api.ErrTooLarge},
	} {
		expect(t, c.parts, c.e, solids(Build(describe(c.parts...))))
	}
	for _, parts := range [][]api.Part{{many("b", 512)}, {many("b", 511), many("c", 1)}, {flagged(many("b", 128), true, true), many("c", 255), many("d", 1)}} {
		if s, e := Build(describe(parts...)); e != api.OK || len(s) != 512 {
			t.Errorf("%d triangles, %d", len(s), e)
		}
	}
	if s, e := Part(describe(flat, many("c", 3), open), "c"); e != api.OK || len(s) != 3 {
		t.Errorf("a part between such that cannot be built: %v, %d", s, e)
	}
}

// Section Errors: the old name, then the form of the new one, then whether a point has it, and be it the same one.
func TestNamesThatCannotBeChanged(t *testing.T) {
	d := three(api.PartFaces)
	for _, old := range slices.Concat([]string{"m", "l", "A", "nobody"}, wrongNames) {
		for _, name := range append([]string{"new", "a", old}, wrongNames...) {
			expect(t, old, api.ErrNotFound, described(Rename(d, old, name)), described(Rename(api.Description{}, old, name)))
		}
	}
	for _, name := range wrongNames {
		expect(t, name, api.ErrName, described(Rename(d, "a", name)), described(Rename(d, "g", name)))
	}
	for _, name := range []string{"a", "b", "g"} {
		expect(t, name, api.ErrTwice, described(Rename(d, "a", name)), described(Rename(d, "g", name)))
	}
}

// overwrite changes all of the memory of an answer, or of arguments.
func overwrite(got answer) {
	changed := api.Vector{X: "changed"}
	triangles := got.Solid[:cap(got.Solid)]
	for i := range triangles {
		triangles[i] = api.Triangle{changed, changed, changed}
	}
	points, parts := got.Description.Points[:cap(got.Description.Points)], got.Description.Parts[:cap(got.Description.Parts)]
	for _, p := range parts {
		faces := p.Faces[:cap(p.Faces)]
		for i, face := range faces {
			names := face[:cap(face)]
			for k := range names {
				names[k] = "changed"
			}
			faces[i] = []string{"changed"}
		}
	}
	for i := range points {
		points[i] = api.Named{Name: "changed"}
	}
	for i := range parts {
		parts[i] = api.Part{Name: "changed"}
	}
}

// copied returns a description that shares no memory, not even that of the room behind its lists.
func copied(d api.Description) api.Description { return normal(d) }

// The chapter, DOC section Rules: arguments are not changed, and share no memory with results.
func TestMemoryIsNotShared(t *testing.T) {
	for _, d := range samples() {
		if len(d.Points) == 0 || len(d.Parts) == 0 {
			continue
		}
		a, point, part := copied(d), d.Points[0].Name, d.Parts[0].Name
		ask := func(d api.Description) []answer {
			return append(askAll(d, part, "new"), described(Rename(d, point, "new")))
		}
		for i, got := range ask(a) {
			overwrite(got)
			if !reflect.DeepEqual(a, copied(d)) {
				t.Fatalf("answer %d has changed the argument %v", i, d)
			}
		}
		kept, again := ask(a), ask(copied(d))
		overwrite(answer{Description: a})
		if !reflect.DeepEqual(kept, again) {
			t.Errorf("results for %v have changed", d)
		}
	}
}

// LANGUAGE 7: no two lists of one result share memory, not even behind their ends.
func TestListsOfOneResult(t *testing.T) {
	const content = "point a 0 0 0\npoint b 1 0 0\npoint c 0 1 0\nfaces f a b c / a b c a / c b a\nprism p of a b c along 0 0 1\nprism q of a b c along 0 0 1\n"
	read := need[api.Description](t)
	d, _, e := Parse(content)
	for what, got := range map[string]api.Description{"read": read(d, e), "renamed": read(Rename(d, "c", "new"))} {
		want := copied(got)
		for i, p := range got.Parts {
			for k, face := range p.Faces {
				_ = append(face, "changed", "changed")
				face[0] = "changed"
				want.Parts[i].Faces[k][0] = "changed"
				if !reflect.DeepEqual(normal(got), want) {
					t.Errorf("what was %s: %v instead of %v", what, got, want)
				}
			}
			_ = append(p.Faces, []string{"changed"}, []string{"changed"})
		}
		if !reflect.DeepEqual(normal(got), want) {
			t.Errorf("what was %s: %v instead of %v", what, got, want)
		}
	}
}

// DOC P2, P3: calls at once, and in any order, return what calls alone return.
func TestCallsAtOnce(t *testing.T) {
	source := rand.New(rand.NewSource(6))
	all := append(samples(), wrong()[:20]...)
	var read []string
	for range all {
		read = append(read, randomText(source))
	}
	ask := func(i int) []answer {
		d := all[i]
		names := []string{"a", "p"}
		if len(d.Parts) > 0 {
			names[1] = d.Parts[0].Name
		}
		return append(askAll(d, names[1], "new"), answer{Error: Check(d)}, described(Rename(d, names[0], "new")), parsed(Parse(read[i])), parsed(Parse(strings.ReplaceAll(read[i], " mirror", ""))))
	}
	var alone [][]answer
	for i := range all {
		alone = append(alone, ask(i))
	}
	var group sync.WaitGroup
	for range 4 {
		group.Go(func() {
			for i := len(all) - 1; i >= 0; i-- {
				if again := ask(i); !reflect.DeepEqual(again, alone[i]) {
					t.Errorf("%v: %v and %v", all[i], again, alone[i])
				}
			}
		})
	}
	group.Wait()
}
