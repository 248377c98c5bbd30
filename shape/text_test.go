package shape

import (
	"math/rand"
	"reflect"
	"slices"
	"strconv"
	"strings"
	"testing"

	"garboard/api"
)

// P15.1: the chapter's example.
func TestExample(t *testing.T) {
	const text = "point a 0 0 0\npoint b 0 1 0.5\npoint c 0 -1 1/2\nprism keel of a b c along 3 0 0 mirror\nbox hold 0 0 0 to 1 1 1 minus\n"
	d, line, e := Parse(text)
	if e != api.OK || line != -1 || !reflect.DeepEqual(d, example()) {
		t.Errorf("%v, %d, %d", d, line, e)
	}
	printed, e := Print(d)
	if e != api.OK || printed != strings.Replace(text, "0.5", "1/2", 1) || strings.Count(printed, "1/2") != 2 {
		t.Errorf("%q, %d", printed, e)
	}
	if s, e := Build(d); e != api.OK || len(s) != 28 {
		t.Errorf("%d triangles, %d", len(s), e)
	}
}

// P15.1: descriptions with their texts.
var texts = []struct {
	d    api.Description
	text string
}{
	{api.Description{}, ""},
	{onePoint(api.Named{Name: "a", At: point("-1/2 0 123456789012345678901234567890")}), "point a -1/2 0 123456789012345678901234567890\n"},
	{api.Description{Points: named("b 1 2 3, a 4 5 6"), Parts: []api.Part{box("z", "0 0 0", "1/2 1/3 -1"), box("y", "1 1 1", "0 0 0")}}, "point b 1 2 3\npoint a 4 5 6\nbox z 0 0 0 to 1/2 1/3 -1\nbox y 1 1 1 to 0 0 0\n"},
	{api.Description{Parts: []api.Part{flagged(box("a", "1 2 3", "4 5 6"), true, false), flagged(box("b", "1 2 3", "4 5 6"), false, true), flagged(box("c", "1 2 3", "4 5 6"), true, true)}}, "box a 1 2 3 to 4 5 6 mirror\nbox b 1 2 3 to 4 5 6 minus\nbox c 1 2 3 to 4 5 6 mirror minus\n"},
	{api.Description{Points: named("of 0 0 0, to 1 0 0, point 0 1 0, c 0 0 1"), Parts: []api.Part{{Name: "along", Kind: api.PartPrism, Faces: [][]string{{"of", "of", "to", "point"}}, Along: point("1 -1 1/2"), Mirror: true, Minus: true}, {Name: "mirror", Kind: api.PartPrism, Faces: [][]string{{"to", "of", "c"}}, Along: point("0 0 0")}}}, "point of 0 0 0\npoint to 1 0 0\npoint point 0 1 0\npoint c 0 0 1\nprism along of of of to point along 1 -1 1/2 mirror minus\nprism mirror of to of c along 0 0 0\n"},
	{api.Description{Points: named("a 0 0 0, b 1 0 0, c 0 1 0"), Parts: []api.Part{faces("minus", "abc"), flagged(faces("of", "abc acb"), false, true), flagged(faces("f", "abca aaa cba"), true, false)}}, "point a 0 0 0\npoint b 1 0 0\npoint c 0 1 0\nfaces minus a b c\nfaces of a b c / a c b minus\nfaces f a b c a / a a a / c b a mirror\n"},
	{api.Description{Points: named("along 0 0 0, mirror 1 0 0, minus 0 1 0"), Parts: []api.Part{box("b", "0 0 0", "1 1 1")}}, "point along 0 0 0\npoint mirror 1 0 0\npoint minus 0 1 0\nbox b 0 0 0 to 1 1 1\n"},
}

// P15.1
func TestKnownTexts(t *testing.T) {
	for _, c := range texts {
		if got, e := Print(c.d); e != api.OK || got != c.text {
			t.Errorf("%v: %q instead of %q, %d", c.d, got, c.text, e)
		}
		if got, line, e := Parse(c.text); e != api.OK || line != -1 || !reflect.DeepEqual(normal(got), normal(c.d)) {
			t.Errorf("%q: %v, %d, %d", c.text, got, line, e)
		}
	}
}

// P15.1: what is left out, in which order lines can come, and how numbers can be written.
func TestOtherTexts(t *testing.T) {
	want := example()
	want.Points[0].At = point("0 1/4 -12")
	lines := []string{"point a 0 0.25 -12", "point b 0 1 0.50", "point c 0.0 -1.0 1/2", "prism keel of a b c along 3 0 0 mirror", "box hold 0 -0.0 0 to 1 01.0 1 minus"}
	for i, text := range []string{
		strings.Join(lines, "\n") + "\n",
		"  " + strings.Join(lines, "  \n   ") + " \n",
		strings.ReplaceAll(strings.Join(lines, "\n"), " ", "   ") + "\n",
		"\n\n" + strings.Join(lines, "\n\n   \n") + "\n\n",
		"# a description\n" + strings.Join(lines, "\n#\n  # point a 1 1 1\n#point\n##  x\n#\xff\x00\t\r\n") + "\n #\n",
		strings.Join(slices.Concat(lines[3:4], lines[:1], lines[4:], lines[1:3]), "\n") + "\n",
	} {
		if d, line, e := Parse(text); e != api.OK || line != -1 || !reflect.DeepEqual(d, want) {
			t.Errorf("text %d: %v, %d, %d", i, d, line, e)
		}
	}
}

// wrongLines are lines that do not have their form.
var wrongLines = []string{
	"x", "a 0 0 0", "Point a 0 0 0", "points a 0 0 0", "/", "mirror", "-", "0", ".#", "x # y", "\t", "\r", "\u00a0", "\tpoint a 0 0 0", "point a 0 0 0\r", "point\ta 0 0 0", "\x00", "\xff",
	"point", "point a", "point a 0", "point a 0 0", "point a 0 0 0 0", "point a 0 0 0 # here", "point a 0 0 0 mirror", "point a b 0 0", "point a 0 0 2/4", "point a 0 0 .5", "point a 0 0 5.", "point a 0 0 -0", "point a 0 0 01", "point a 0 0 +1", "point a 0 0 1e3", "point a 0,0 0 0", "point a 0 0 1/0", "point a 0 0 0.5/2", "point a 0 0\t0", "point 0 0 0",
	"box", "box a", "box a 0 0 0", "box a 0 0 0 to", "box a 0 0 0 to 1 1", "box a 0 0 0 1 1 1", "box a 0 0 0 of 1 1 1", "box a 0 0 to 1 1 1", "box a 0 0 0 0 to 1 1 1", "box a 0 0 x to 1 1 1", "box a 0 0 0 to 1 1 x", "box a 0 0 0 to 1 1 1 1", "box a 0 0 0 to 1 1 1 minus mirror", "box a 0 0 0 to 1 1 1 mirror mirror", "box a 0 0 0 to 1 1 1 minus minus", "box a 0 0 0 to 1 1 1 Mirror", "box a 0 0 0 to 1 1 1 mirror minus x", "box a 0 0 0 to 1 1 1 mirror x minus", "box a mirror 0 0 0 to 1 1 1", "box a 0 0 0 to 1 1 1 /", "box a 0 0 0 to 1 1 1 along 0 0 0", "box 0 0 0 to 1 1 1",
	"prism", "prism k", "prism k of", "prism k of a b c", "prism k of a b c along", "prism k of a b c along 1 0", "prism k of a b c along 1 0 x", "prism k of a b c along 1 0 0 0", "prism k of a b c 1 0 0", "prism k a b c along 1 0 0", "prism k to a b c along 1 0 0", "prism of a b c along 1 0 0", "prism k of a b / c along 1 0 0", "prism k of a b c / along 1 0 0", "prism k of a b c mirror along 1 0 0", "prism k of a minus b c along 1 0 0", "prism k of a b c along along 1 0 0", "prism k of a b along c along 1 0 0", "prism k of a b c along 1 0 0 minus mirror", "prism k of a b c along 1 0 0 x", "prism k of a b c mirror", "prism k of a b c",
	"faces", "faces f a b c along", "faces f a b c along 0 0 1", "faces f along a b c", "faces f a b c mirror /", "faces f a b c minus mirror", "faces f a b c mirror a", "faces f a b c mirror / a b c", "faces f mirror a b c", "faces f a b c / minus / a b c", "faces f minus minus", "faces f mirror mirror",
}

// P15.1, section Errors: the number of the first line that is wrong, among others that are right, left out, or have faults.
func TestLinesWithoutTheirForm(t *testing.T) {
	before := []string{"", "point a 0 0 0\n", "\n", "  \n# x\npoint a 0 0 0\n\n", "point a 0 0 0\npoint a 0 0 0\nbox 1 1 1 1 to 0 0 0\n", "point a 0 0 0\nfaces f x y\n"}
	for _, wrong := range wrongLines {
		for _, b := range before {
			for _, behind := range []string{"\n", "\npoint b 0 0 0\n", "\n" + wrong + "\nx\n", "\nx", ""} {
				d, line, e := Parse(b + wrong + behind)
				if e != api.ErrSyntax || line != strings.Count(b, "\n") || !reflect.DeepEqual(d, api.Description{}) {
					t.Errorf("%q: %v, %d, %d", b+wrong+behind, d, line, e)
				}
			}
		}
	}
}

// P15.1: each line ends with a line feed, even one that would be left out.
func TestTextsWithoutALineFeedAtTheEnd(t *testing.T) {
	for _, last := range []string{"point b 0 0 0", "# x", "#", " ", "box b 0 0 0 to 1 1 1"} {
		for before := range 3 {
			text := strings.Repeat("# x\n", before) + last
			if d, line, e := Parse(text); e != api.ErrSyntax || line != before || !reflect.DeepEqual(d, api.Description{}) {
				t.Errorf("%q: %v, %d, %d", text, d, line, e)
			}
			if _, line, e := Parse(text + "\n"); e != api.OK || line != -1 {
				t.Errorf("%q: %d, %d", text+"\n", line, e)
			}
		}
	}
}

// Section Errors: faults of what is read come behind all lines. Any word can stand for a name.
func TestTextsWithFaults(t *testing.T) {
	const three = "point a 0 0 0\npoint b 1 0 0\npoint c 0 1 0\n"
	for _, c := range []struct {
		text string
		e    api.Errno
	}{
		{"point 1 0 0 0\n", api.ErrName}, {"point a/b 0 0 0\n", api.ErrName}, {"point / 0 0 0\n", api.ErrName}, {"point # 0 0 0\n", api.ErrName}, {"point a\t 0 0 0\n", api.ErrName}, {"point \xff 0 0 0\n", api.ErrName}, {"point " + strings.Repeat("n", 65) + " 0 0 0\n", api.ErrName}, {"box 9 0 0 0 to 1 1 1\n", api.ErrName}, {three + "faces / a b c\n", api.ErrName}, {three + "prism #1 of a b c along 0 0 1\n", api.ErrName},
		{"point a 0 0 0\npoint a 1 1 1\n", api.ErrTwice}, {"box a 0 0 0 to 1 1 1\n\nbox a 0 0 0 to 2 2 2\n", api.ErrTwice}, {three + "box a 0 0 0 to 1 1 1\nfaces a a b c\n", api.ErrTwice},
		{"prism p of along 0 0 1\n", api.ErrEmpty}, {three + "prism p of a b along 0 0 1\n", api.ErrEmpty}, {"faces f\n", api.ErrEmpty}, {"faces f mirror minus\n", api.ErrEmpty}, {"faces f minus\n", api.ErrEmpty}, {"faces mirror\n", api.ErrEmpty}, {three + "faces f a b c /\n", api.ErrEmpty}, {three + "faces f / a b c\n", api.ErrEmpty}, {three + "faces f a b c / / a b c\n", api.ErrEmpty}, {three + "faces f a b c / a b minus\n", api.ErrEmpty}, {"faces f /\n", api.ErrEmpty}, {three + "faces f x / a b c\n", api.ErrEmpty},
		{"prism p of a b c along 0 0 1\n", api.ErrNotFound}, {three + "faces f a b c / a b d\n", api.ErrNotFound}, {three + "faces f a b c/ a b c\n", api.ErrNotFound}, {three + "faces f a b c // a b c\n", api.ErrNotFound}, {three + "faces f a b c # no comment\n", api.ErrNotFound}, {three + "faces f a b c to\n", api.ErrNotFound}, {three + "faces f a b 1\n", api.ErrNotFound}, {three + "faces f a b c Mirror\n", api.ErrNotFound},
	} {
		if d, line, e := Parse(c.text); e != c.e || line != -1 || !reflect.DeepEqual(d, api.Description{}) {
			t.Errorf("%q: %v, %d, the error %d instead of %d", c.text, d, line, e, c.e)
		}
	}
}

// P15.1, section Errors: too much of something, and as much as there may be.
func TestTextsOfManyThings(t *testing.T) {
	list := func(count int, line string) string {
		var out strings.Builder
		for i := range count {
			out.WriteString(strings.Replace(line, "#", strconv.Itoa(i), 1) + "\n")
		}
		return out.String()
	}
	const point, part, corners = "point p# 0 0 0", "box b# 0 0 0 to 1 1 1", "point a 0 0 0\npoint b 0 0 0\npoint c 0 0 0\n"
	for text, want := range map[string]api.Errno{
		list(256, point) + list(64, part): api.OK, list(257, point): api.ErrTooLarge, list(65, part): api.ErrTooLarge, list(256, point) + "\npoint p0 0 0 0\n": api.ErrTooLarge,
		corners + "faces f" + strings.Repeat(" a b c /", 511) + " a b c\n": api.OK, corners + "faces f" + strings.Repeat(" a b c /", 512) + " a b c\n": api.ErrTooLarge,
		corners + "faces f" + strings.Repeat(" a", 256) + "\n": api.OK, corners + "faces f" + strings.Repeat(" a", 257) + "\n": api.ErrTooLarge, corners + "prism p of" + strings.Repeat(" b", 256) + " along 0 0 1\n": api.OK, corners + "prism p of" + strings.Repeat(" b", 257) + " along 0 0 1\n": api.ErrTooLarge,
	} {
		if _, line, e := Parse(text); e != want || line != -1 {
			t.Errorf("a text of %d bytes: %d, the error %d instead of %d", len(text), line, e, want)
		}
	}
}

// Section Errors: the size of a text comes first.
func TestTextsThatAreTooLarge(t *testing.T) {
	const content = "point a 0 0 0\n"
	rest := api.MaxData - len(content)
	for text, want := range map[string]api.Errno{
		content + strings.Repeat("\n", rest): api.OK, content + strings.Repeat("\n", rest+1): api.ErrTooLarge,
		content + strings.Repeat(" ", rest-1) + "\n": api.OK, content + strings.Repeat(" ", rest) + "\n": api.ErrTooLarge,
		strings.Repeat("x", api.MaxData): api.ErrSyntax, strings.Repeat("x", api.MaxData+1): api.ErrTooLarge, strings.Repeat("x\n", api.MaxData): api.ErrTooLarge,
		"point a 0 0 0." + strings.Repeat("1", rest) + "\n": api.ErrTooLarge, "point a 0 0 0." + strings.Repeat("1", rest-1) + "\n": api.OK,
	} {
		want, wantLine := want, -1
		if want == api.ErrSyntax {
			wantLine = 0
		}
		if _, line, e := Parse(text); e != want || line != wantLine {
			t.Errorf("%q and so on, %d bytes: %d, the error %d instead of %d", text[:20], len(text), line, e, want)
		}
	}
}

// vocabulary are words of which lines are made at random.
var vocabulary = strings.Split("point box prism faces to of along mirror minus / a b c a b c a b c 0 1 1/2 0.5 -3 2/4 # #x a0 a1 z92 p-0 p-1 p-2 ", " ")

// randomText returns lines of which many are right, some with a few words changed, and some twice.
func randomText(source *rand.Rand) string {
	text, _ := Print(randomDescription(source))
	var out strings.Builder
	for line := range strings.Lines(text) {
		words := strings.Split(strings.TrimSuffix(line, "\n"), " ")
		for source.Intn(9) == 0 {
			i, word := source.Intn(len(words)+1), vocabulary[source.Intn(len(vocabulary))]
			switch {
			case source.Intn(3) == 0 || i == len(words):
				words = slices.Insert(words, i, word)
			case source.Intn(2) == 0 && len(words) > 1:
				words = slices.Delete(words, i, i+1)
			default:
				words[i] = word
			}
		}
		if source.Intn(60) == 0 {
			out.WriteString(line)
		}
		out.WriteString(strings.Join(words, strings.Repeat(" ", 1+source.Intn(2))))
		if source.Intn(60) > 0 {
			out.WriteString("\n")
		}
	}
	return out.String()
}

// P15.1: texts at random are read as the expressions read them.
func TestRandomTexts(t *testing.T) {
	source := rand.New(rand.NewSource(2))
	found := map[api.Errno]int{}
	for range 6000 {
		text := randomText(source)
		if source.Intn(6) == 0 {
			var words []string
			for range 1 + source.Intn(9) {
				words = append(words, vocabulary[source.Intn(len(vocabulary))])
			}
			text = strings.Join(words, " ") + "\n" + text
		}
		want, wantLine := readAsDefined(text)
		wantError := api.ErrSyntax
		if wantLine < 0 {
			wantError = Check(want)
		}
		if wantError != api.OK {
			want = api.Description{}
		}
		d, line, e := Parse(text)
		if e != wantError || line != wantLine || !reflect.DeepEqual(normal(d), normal(want)) {
			t.Errorf("%q: %v, %d, %d instead of %v, %d, %d", text, d, line, e, want, wantLine, wantError)
		}
		found[e]++
	}
	for _, e := range []api.Errno{api.OK, api.ErrSyntax, api.ErrName, api.ErrTwice, api.ErrNotFound, api.ErrEmpty} {
		if found[e] < 10 {
			t.Errorf("the errors that were found: %v", found)
		}
	}
}

// P15.4: Parse restores each description from its text, and what was read and printed is read as the same.
func TestTextsThereAndBack(t *testing.T) {
	source := rand.New(rand.NewSource(3))
	all := append(samples(), greatest())
	for range 300 {
		all = append(all, randomDescription(source))
	}
	for _, d := range all {
		text := need[string](t)(Print(d))
		again, line, e := Parse(text)
		if e != api.OK || line != -1 || !reflect.DeepEqual(normal(again), normal(d)) {
			t.Errorf("%v: %q is read as %v, %d, %d", d, text, again, line, e)
		}
		if printed := need[string](t)(Print(again)); printed != text {
			t.Errorf("%q is printed again as %q", text, printed)
		}
	}
}

// Section Errors: names that faces cannot have in a text, in each face, of each kind. A prism has a face, too.
func TestNamesThatCannotBeRead(t *testing.T) {
	for _, name := range []string{"along", "mirror", "minus"} {
		points := append(named(corners), api.Named{Name: name, At: point("0 0 0")})
		for _, kind := range []int{api.PartPrism, api.PartFaces} {
			d := three(kind)
			d.Points = points
			last := len(d.Parts[1].Faces) - 1
			d.Parts[1].Faces[last] = append(d.Parts[1].Faces[last], name)
			if text, e := Print(d); e != api.ErrName || text != "" {
				t.Errorf("%v: %q, %d", d, text, e)
			}
			if e := Check(d); e != api.OK {
				t.Errorf("%v: the error %d", d, e)
			}
			d.Parts[2].Kind = 0
			if text, e := Print(d); e != api.ErrArg || text != "" {
				t.Errorf("%v: %q, %d", d, text, e)
			}
		}
	}
}

// The chapter's way: a loop can end ahead of the last word.
func TestWordsOfALine(t *testing.T) {
	for _, c := range []struct{ line, want string }{{"", ""}, {"   ", ""}, {"a", "a"}, {" a  bb c ", "a|bb|c"}, {"a\tb \n c", "a\tb|\n|c"}, {"\xff é", "\xff|é"}} {
		var got []string
		for word := range words(c.line) {
			got = append(got, word)
		}
		if strings.Join(got, "|") != c.want {
			t.Errorf("%q: %q", c.line, got)
		}
	}
	for word := range words("a b c") {
		if word == "b" {
			break
		}
		if word == "c" {
			t.Error("the loop goes on")
		}
	}
}
