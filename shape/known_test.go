package shape

import (
	"math/big"
	"math/rand"
	"regexp"
	"slices"
	"strconv"
	"strings"
	"testing"

	"garboard/api"
	"garboard/rational"
)

// none are strings that are no numbers.
var none = []api.Rat{"", "-0", "2/4", "0.5", "01", "1/0", "4/1", "x", "\xff", "123456789012345678901234567890/246913578024691357802469135780"}

// rightNames and wrongNames are names by their form. Letters are those of ASCII alone.
var rightNames = []string{"a", "Z", "z9", "A.b_c-D", "x.", "x_", "x-", "x0", "point", "box", "of", "to", "prism", "faces", strings.Repeat("n", 64)}
var wrongNames = []string{"", "1", "1a", ".a", "_a", "-a", "a b", " a", "a ", "a/b", "/", "#", "#a", "a#", "a\n", "a\t", "a,b", "a:", "é", "aé", "a\xff", "a\x00", "@", "a@", "[", "a[", "`", "a`", "{", "a{", strings.Repeat("n", 65), strings.Repeat("n", 200)}

// point reads three numbers.
func point(s string) api.Vector {
	words := strings.Fields(s)
	return api.Vector{X: api.Rat(words[0]), Y: api.Rat(words[1]), Z: api.Rat(words[2])}
}

// named reads points with their names, separated by commas.
func named(s string) []api.Named {
	var out []api.Named
	for part := range strings.SplitSeq(s, ",") {
		name, at, _ := strings.Cut(strings.TrimSpace(part), " ")
		out = append(out, api.Named{Name: name, At: point(at)})
	}
	return out
}

// facesOf reads names of points, one letter each.
func facesOf(s string) [][]string {
	var out [][]string
	for word := range strings.FieldsSeq(s) {
		out = append(out, strings.Split(word, ""))
	}
	return out
}

func box(name, low, high string) api.Part {
	return api.Part{Name: name, Kind: api.PartBox, Low: point(low), High: point(high)}
}

func prism(name, face, along string) api.Part {
	return api.Part{Name: name, Kind: api.PartPrism, Faces: facesOf(face), Along: point(along)}
}

func faces(name, s string) api.Part {
	return api.Part{Name: name, Kind: api.PartFaces, Faces: facesOf(s)}
}

// flagged returns a part with some flags.
func flagged(p api.Part, mirror, minus bool) api.Part {
	p.Mirror, p.Minus = mirror, minus
	return p
}

// corners are those of a tetrahedron, and points beside it.
const corners = "a 0 0 0, b 2 0 0, c 0 2 0, d 0 0 2, e 1 1/2 -7/3, f 5 -1 1, g -1 123456789012345678901234567890/11 0"

// tetrahedron are its faces.
const tetrahedron = "acb abd bcd cad"

// describe returns a description with the corners.
func describe(parts ...api.Part) api.Description {
	return api.Description{Points: named(corners), Parts: parts}
}

// onePoint is a description with one point alone.
func onePoint(p api.Named) api.Description { return api.Description{Points: []api.Named{p}} }

// example is that of the chapter.
func example() api.Description {
	return api.Description{
		Points: named("a 0 0 0, b 0 1 1/2, c 0 -1 1/2"),
		Parts:  []api.Part{flagged(prism("keel", "abc", "3 0 0"), true, false), flagged(box("hold", "0 0 0", "1 1 1"), false, true)},
	}
}

// samples are right descriptions that have a text and a solid.
func samples() []api.Description {
	out := []api.Description{{}, {Points: []api.Named{}, Parts: []api.Part{}}, example(), {Points: named(corners)}, describe()}
	for _, p := range []api.Part{
		box("a", "0 0 0", "1 1 1"), box("B.2", "-1/2 -3 0", "7/3 123456789012345678901234567890 1"),
		prism("mirror", "abc", "0 0 1"), prism("along", "abcefabg", "-1/3 0 7"), prism("p", "aaa", "0 0 0"),
		faces("minus", tetrahedron), faces("f", "abc acb"), faces("f-1", "abcd dcba"), faces("g", "efa afe aaa efg gfe"),
	} {
		for i := range 4 {
			out = append(out, describe(flagged(p, i&1 > 0, i&2 > 0)))
		}
	}
	out = append(out, describe(box("a", "0 0 0", "1 1 1"), flagged(prism("b", "abc", "0 0 1"), true, true), faces("c", tetrahedron)))
	for _, name := range rightNames {
		renamed := named(corners)
		renamed[0].Name = name
		p := prism(name, "bcd", "1 0 0")
		p.Faces[0][1] = name
		if name != "b" && name != "d" {
			out = append(out, api.Description{Points: renamed, Parts: []api.Part{p, box("q", "0 0 0", "1 1 1")}})
		}
	}
	return out
}

// greatest is a description with as much of everything as there may be.
func greatest() api.Description {
	var d api.Description
	var face []string
	for i := range api.MaxPoints {
		n := strconv.Itoa(i)
		d.Points = append(d.Points, api.Named{Name: "p" + n, At: point(n + " 1 " + n)})
		face = append(face, "p"+n)
	}
	for i := range api.MaxTerms {
		d.Parts = append(d.Parts, box("b"+strconv.Itoa(i), "0 0 0", "1 1 1"))
	}
	d.Parts[7] = api.Part{Name: "many", Kind: api.PartFaces, Faces: append(slices.Repeat([][]string{face[:3]}, api.MaxTriangles-1), face)}
	return d
}

// randomPart returns a right part, mostly without a solid.
func randomPart(source *rand.Rand, points []api.Named, name string) api.Part {
	face := func() []string {
		var out []string
		for range 3 + source.Intn(4) {
			out = append(out, points[source.Intn(len(points))].Name)
		}
		return out
	}
	at := func() api.Vector { return points[source.Intn(len(points))].At }
	p := api.Part{Name: name, Kind: 1 + source.Intn(3), Mirror: source.Intn(2) > 0, Minus: source.Intn(2) > 0}
	switch p.Kind {
	case api.PartBox:
		p.Low, p.High = at(), at()
	case api.PartPrism:
		p.Faces, p.Along = [][]string{face()}, at()
	default:
		for range 1 + source.Intn(4) {
			p.Faces = append(p.Faces, face())
		}
	}
	return p
}

// randomDescription returns one that is right, and has a text.
func randomDescription(source *rand.Rand) api.Description {
	var d api.Description
	number := func() api.Rat {
		return api.Rat(big.NewRat(source.Int63n(1<<uint(1+source.Intn(50)))-9, 1+source.Int63n(1<<uint(1+source.Intn(50)))).RatString())
	}
	for i := range 1 + source.Intn(6) {
		d.Points = append(d.Points, api.Named{Name: rightNames[source.Intn(5)] + strconv.Itoa(i), At: api.Vector{X: number(), Y: number(), Z: number()}})
	}
	for i := range source.Intn(6) {
		d.Parts = append(d.Parts, randomPart(source, d.Points, "p-"+strconv.Itoa(i)))
	}
	return d
}

// words and numbers of lines, as expressions.
const (
	aWord     = ` +([^ ]+)`
	aVector   = aWord + aWord + aWord
	someFlags = `( +mirror)?( +minus)? *$`
	someNames = `((?: +[^ ]+)*?)`
)

// lineForms are the forms of lines as expressions.
var lineForms = map[string]*regexp.Regexp{
	"point": regexp.MustCompile(`^ *point` + aWord + aVector + ` *$`),
	"box":   regexp.MustCompile(`^ *box` + aWord + aVector + ` +to` + aVector + someFlags),
	"prism": regexp.MustCompile(`^ *prism` + aWord + ` +of` + someNames + ` +along` + aVector + someFlags),
	"faces": regexp.MustCompile(`^ *faces` + aWord + someNames + someFlags),
}

var skipped = regexp.MustCompile(`^ *(#.*)?$`)

// readAsDefined reads a text by the expressions. It returns the number of the first line that is wrong, or -1.
func readAsDefined(text string) (api.Description, int) {
	var d api.Description
	lines := strings.SplitAfter(text, "\n")
	for i, line := range lines {
		if line == "" && i == len(lines)-1 {
			break
		}
		content, isEnded := strings.CutSuffix(line, "\n")
		if !isEnded || !skipped.MatchString(content) && !readLineAsDefined(content, &d) {
			return api.Description{}, i
		}
	}
	return d, -1
}

func readLineAsDefined(line string, d *api.Description) bool {
	for first, form := range lineForms {
		m := form.FindStringSubmatch(line)
		if m == nil {
			continue
		}
		switch first {
		case "point":
			at, ok := vectorAsDefined(m[2:5])
			d.Points = append(d.Points, api.Named{Name: m[1], At: at})
			return ok
		case "box":
			low, isLow := vectorAsDefined(m[2:5])
			high, isHigh := vectorAsDefined(m[5:8])
			d.Parts = append(d.Parts, api.Part{Name: m[1], Kind: api.PartBox, Low: low, High: high, Mirror: m[8] != "", Minus: m[9] != ""})
			return isLow && isHigh
		case "prism":
			face := strings.Fields(m[2])
			along, ok := vectorAsDefined(m[3:6])
			d.Parts = append(d.Parts, api.Part{Name: m[1], Kind: api.PartPrism, Faces: [][]string{face}, Along: along, Mirror: m[6] != "", Minus: m[7] != ""})
			return ok && !slices.ContainsFunc(face, isReserved) && !slices.Contains(face, "/")
		case "faces":
			p := api.Part{Name: m[1], Kind: api.PartFaces, Mirror: m[3] != "", Minus: m[4] != ""}
			all := strings.Fields(m[2])
			for face := range strings.SplitSeq(" "+strings.Join(all, "  ")+" ", " / ") {
				p.Faces = append(p.Faces, strings.Fields(face))
			}
			d.Parts = append(d.Parts, p)
			return !slices.ContainsFunc(all, isReserved)
		}
	}
	return false
}

func isReserved(name string) bool { return slices.Contains([]string{"along", "mirror", "minus"}, name) }

func vectorAsDefined(words []string) (api.Vector, bool) {
	var l []api.Rat
	for _, word := range words {
		x, e := rational.Parse(word)
		if e != api.OK {
			return api.Vector{}, false
		}
		l = append(l, x)
	}
	return api.Vector{X: l[0], Y: l[1], Z: l[2]}, true
}

// normal returns a description without empty lists.
func normal(d api.Description) api.Description {
	out := api.Description{Points: append([]api.Named(nil), d.Points...), Parts: append([]api.Part(nil), d.Parts...)}
	for i, p := range out.Parts {
		out.Parts[i].Faces = nil
		for _, face := range p.Faces {
			out.Parts[i].Faces = append(out.Parts[i].Faces, append([]string(nil), face...))
		}
	}
	return out
}

// need returns a result that has to come without an error.
func need[T any](t *testing.T) func(result T, e api.Errno) T {
	t.Helper()
	return func(result T, e api.Errno) T {
		t.Helper()
		if e != api.OK {
			t.Fatalf("the error %d", e)
		}
		return result
	}
}
