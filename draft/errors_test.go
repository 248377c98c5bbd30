package draft

import (
	"slices"
	"sync"
	"testing"

	"garboard/api"
)

// none are strings that are no numbers.
var none = []api.Rat{"", "-0", "2/4", "1.5", "01", "1/0", "4/1", "x", "\xff", "123456789012345678901234567890/246913578024691357802469135780"}

// answer is what a function returned.
type answer struct {
	Level  api.Interval
	Spot   api.Spot
	Number api.Rat
	Error  api.Errno
}

func askedLevel(s api.Solid, a api.Attitude, volume api.Rat, k int) answer {
	level, e := Level(s, a, volume, k)
	return answer{Level: level, Error: e}
}

func askedMark(a api.Attitude, d, x, y api.Rat) answer {
	z, e := Mark(a, d, x, y)
	return answer{Number: z, Error: e}
}

// askedRight calls all functions that need a level that is right.
func askedRight(s api.Solid, a api.Attitude, volume api.Rat, level api.Interval) []answer {
	moments, e := Enclose(s, a, volume, level)
	centre, f := Centre(s, a, volume, level)
	return []answer{{Error: Check(s, a, volume, level)}, {Spot: moments, Error: e}, {Spot: centre, Error: f}}
}

// asked calls all functions with a solid; the level is wrong for most volumes.
func asked(s api.Solid, a api.Attitude, volume api.Rat) []answer {
	return append(askedRight(s, a, volume, ends("100 -100")), askedLevel(s, a, volume, 3))
}

// expect checks that there is nothing but an error.
func expect(t *testing.T, what any, e api.Errno, answers ...answer) {
	t.Helper()
	for i, got := range answers {
		if got != (answer{Error: e}) {
			t.Errorf("%v: answer %d is %v instead of the error %d", what, i, got, e)
		}
	}
}

// wrongSolids have what is no number at some place.
func wrongSolids(t *testing.T) []api.Solid {
	t.Helper()
	out := []api.Solid{{{}}}
	for i, x := range none {
		for _, r := range []api.Vector{{X: x, Y: "1", Z: "1"}, {X: "1", Y: x, Z: "1"}, {X: "0", Y: "0", Z: x}} {
			s := example(t)
			s[len(s)-1][i%3] = r
			out = append(out, s, api.Solid{{r, r, r}})
		}
	}
	return out
}

// wrongAttitudes have what is no number, also beside a number that is out of range.
func wrongAttitudes() []api.Attitude {
	var out []api.Attitude
	for _, x := range none {
		for _, y := range []api.Rat{"0", "1/3", "2", "-5", x} {
			out = append(out, api.Attitude{Heel: x, Trim: y}, api.Attitude{Heel: y, Trim: x})
		}
	}
	return out
}

// farAttitudes are out of range.
func farAttitudes() []api.Attitude {
	return []api.Attitude{at("2 0"), at("-2 0"), at("1000000000000000000001/1000000000000000000000 0"), at("-9/8 1/2"), at("0 1"), at("0 -1"), at("1 501/1000"), at("-1 -501/1000"), at("7 7")}
}

// open returns solids that are not closed.
func open(t *testing.T) []api.Solid {
	t.Helper()
	s, a, b := example(t), point("1 0 0"), point("0 1 0")
	return []api.Solid{s[1:], s[:11], append(slices.Clone(s), s[0]), {{a, b, point("0 0 0")}}, {{a, a, b}, {a, b, b}, {a, b, a}, {b, point("0 0 0"), a}}}
}

// farHalvings are out of range.
var farHalvings = []int{-1, api.MaxHalvings + 1, -1 << 63, 1<<63 - 1}

// Section Errors: the number of triangles comes ahead of all others.
func TestNumbersOfTriangles(t *testing.T) {
	many := slices.Repeat(api.Solid{{}}, api.MaxTriangles+1)
	for _, a := range slices.Concat(wrongAttitudes()[:6], farAttitudes(), attitudes()) {
		for _, volume := range []api.Rat{"1", "-1", "x"} {
			expect(t, a, api.ErrEmpty, asked(nil, a, volume)...)
			expect(t, a, api.ErrEmpty, asked(api.Solid{}, a, volume)...)
			expect(t, a, api.ErrTooLarge, asked(many, a, volume)...)
			expect(t, a, api.ErrEmpty, askedLevel(nil, a, volume, -1))
			expect(t, a, api.ErrTooLarge, askedLevel(many, a, volume, 25))
		}
	}
}

// Section Errors: numbers that are not valid come ahead of attitudes and halvings out of range, and of solids that are not closed.
func TestNumbersThatAreNotValid(t *testing.T) {
	for _, s := range append(open(t), example(t)) {
		for _, a := range wrongAttitudes() {
			expect(t, a, api.ErrArg, asked(s, a, "1")...)
			expect(t, a, api.ErrArg, askedLevel(s, a, "-1", -1))
		}
		for _, a := range append(farAttitudes(), at("0 0"), at("1/2 1/3")) {
			for _, x := range none {
				expect(t, x, api.ErrArg, asked(s, a, x)...)
				expect(t, x, api.ErrArg, askedLevel(s, a, x, 25))
				for _, level := range []api.Interval{{Lo: x, Hi: "1"}, {Lo: "1", Hi: x}, {Lo: x, Hi: x}} {
					expect(t, x, api.ErrArg, askedRight(s, a, "40", level)...)
				}
			}
		}
	}
	for _, s := range wrongSolids(t) {
		for _, a := range append(farAttitudes(), at("0 0")) {
			expect(t, s, api.ErrArg, asked(s, a, "1")...)
			expect(t, s, api.ErrArg, askedLevel(s, a, "-1", -1))
		}
	}
}

// Section Errors: attitudes and halvings out of range come ahead of solids that are not closed.
func TestAttitudesAndHalvingsOutOfRange(t *testing.T) {
	for _, s := range append(open(t), example(t)) {
		for _, a := range farAttitudes() {
			expect(t, a, api.ErrRange, asked(s, a, "1")...)
		}
		for _, k := range farHalvings {
			expect(t, k, api.ErrRange, askedLevel(s, at("0 0"), "1", k), askedLevel(s, at("1/2 1/3"), "-1", k))
		}
	}
}

// Section Errors: solids that are not closed come ahead of volumes out of range, and of levels that are not right.
func TestSolidsThatAreNotClosed(t *testing.T) {
	for _, s := range open(t) {
		for _, a := range attitudes() {
			for _, volume := range []api.Rat{"0", "1", "-100", "1000000"} {
				expect(t, s, api.ErrOpen, asked(s, a, volume)...)
				expect(t, s, api.ErrOpen, askedRight(s, a, volume, ends("-100 100"))...)
			}
		}
	}
}

// Section Errors: also for a solid inside out, of which no volume is in range.
func TestVolumesOutOfRange(t *testing.T) {
	for _, a := range attitudes() {
		for _, k := range []int{0, 1, api.MaxHalvings} {
			for _, volume := range []api.Rat{"-1", "-1/1000000000000", "120000000001/1000000000", "121"} {
				expect(t, volume, api.ErrRange, askedLevel(example(t), a, volume, k))
			}
			for _, volume := range []api.Rat{"-120", "-40", "0", "40", "120"} {
				expect(t, volume, api.ErrRange, askedLevel(reversed(t, example(t)), a, volume, k))
			}
		}
		for _, volume := range []api.Rat{"0", "120"} {
			if got, e := Level(example(t), a, volume, 0); e != api.OK || got == (api.Interval{}) {
				t.Errorf("%v, %s: %v, %d", a, volume, got, e)
			}
		}
	}
}

// Section Errors: a level that is not right comes ahead of a volume that is 0.
func TestLevelsThatAreNotRight(t *testing.T) {
	for _, c := range []struct {
		volume api.Rat
		level  string
	}{{"40", "2 1"}, {"40", "2 3"}, {"40", "0 1/2"}, {"0", "1 2"}, {"0", "0 -1"}, {"-1", "-1 1"}, {"121", "0 9"}} {
		expect(t, c, api.ErrProof, askedRight(example(t), at("0 0"), c.volume, ends(c.level))...)
	}
	for _, level := range []string{"0 0", "-1 0", "0 3", "-2 -1"} {
		answers := askedRight(example(t), at("0 0"), "0", ends(level))
		expect(t, level, api.ErrZero, answers[2])
		if answers[0].Error != api.OK || answers[1].Error != api.OK || answers[1].Spot != spot("0 0 0 0 0 0") {
			t.Errorf("%s: %v", level, answers)
		}
	}
}

// Section Errors: of marks, each one beside all that come behind it.
func TestErrorsOfMarks(t *testing.T) {
	for _, a := range slices.Concat(farAttitudes(), attitudes()) {
		for _, x := range none {
			expect(t, a, api.ErrArg, askedMark(a, x, "1", "1"), askedMark(a, "1", x, "1"), askedMark(a, "1", "1", x), askedMark(a, x, x, x))
		}
	}
	for _, a := range wrongAttitudes() {
		expect(t, a, api.ErrArg, askedMark(a, "1", "1", "1"))
	}
	for _, a := range farAttitudes() {
		expect(t, a, api.ErrRange, askedMark(a, "1", "1", "1"))
	}
	for _, a := range []api.Attitude{at("1 0"), at("-1 0"), at("1 1/2"), at("-1 -1/7")} {
		expect(t, a, api.ErrZero, askedMark(a, "0", "0", "0"), askedMark(a, "1", "2", "3"))
	}
}

// DOC P2, P3, section Rules: calls at once, and in any order, return what calls alone return, and change no arguments.
func TestCallsAtOnce(t *testing.T) {
	askAll := func(s api.Solid, a api.Attitude) []answer {
		out := []answer{askedLevel(s, a, "1/7", 5), askedMark(a, "1", "2", "3")}
		return append(out, askedRight(s, a, "1/7", out[0].Level)...)
	}
	var alone [][]answer
	l := wholeBodies(t)
	for _, s := range l {
		for _, a := range attitudes()[:3] {
			before := slices.Clone(s)
			alone = append(alone, askAll(s, a))
			if !slices.Equal(before, s) {
				t.Errorf("%v has become %v", before, s)
			}
		}
	}
	var group sync.WaitGroup
	for range 4 {
		group.Go(func() {
			for i := range slices.Backward(alone) {
				if again := askAll(l[i/3], attitudes()[i%3]); !slices.Equal(again, alone[i]) {
					t.Errorf("%v and %v", again, alone[i])
				}
			}
		})
	}
	group.Wait()
}
