package bonjean

import (
	"slices"
	"sync"
	"testing"

	"garboard/api"
)

// none are strings that are no numbers.
var none = list("-0 2/4 1.5 01 1/0 4/1 x \xff 123456789012345678901234567890/246913578024691357802469135780")

// answer is what a function returned.
type answer struct {
	Slice  api.Slice
	Sums   [2]api.Rat
	Breaks []api.Rat
	Table  [][]api.Rat
	Error  api.Errno
}

// asked calls every function but Table.
func asked(s api.Solid, a api.Attitude, d api.Rat) []answer {
	out := make([]answer, 3)
	out[0].Slice, out[0].Error = At(s, a, d, "1")
	out[1].Breaks, out[1].Error = Breaks(s, a, d)
	out[2].Sums[0], out[2].Sums[1], out[2].Error = Sum(s, a, d)
	return out
}

func askedAt(s api.Solid, a api.Attitude, d, x api.Rat) answer {
	slice, e := At(s, a, d, x)
	return answer{Slice: slice, Error: e}
}

func askedTable(s api.Solid, xs, levels []api.Rat) answer {
	table, e := Table(s, xs, levels)
	return answer{Table: table, Error: e}
}

func isSame(a, b answer) bool {
	return a.Slice == b.Slice && a.Sums == b.Sums && a.Error == b.Error && slices.Equal(a.Breaks, b.Breaks) && slices.EqualFunc(a.Table, b.Table, slices.Equal[[]api.Rat])
}

// expect checks that there is nothing but an error.
func expect(t *testing.T, what any, e api.Errno, answers ...answer) {
	t.Helper()
	for i, got := range answers {
		if !isSame(got, answer{Error: e}) {
			t.Errorf("%v: answer %d is %v instead of the error %d", what, i, got, e)
		}
	}
}

// wrongNumbers are what is no number, also the empty string.
func wrongNumbers() []api.Rat { return append([]api.Rat{""}, none...) }

// wrongSolids have what is no number at some place.
func wrongSolids(t *testing.T) []api.Solid {
	t.Helper()
	out := []api.Solid{{{}}}
	for i, x := range wrongNumbers() {
		for _, r := range []api.Vector{{X: x, Y: "1", Z: "1"}, {X: "1", Y: x, Z: "1"}, {X: "0", Y: "0", Z: x}} {
			s := example(t)
			s[len(s)-1][i%3] = r
			out = append(out, s, api.Solid{{r, r, r}})
		}
	}
	return out
}

// wrongAttitudes have what is no number, also beside a number that is out of range.
func wrongAttitudes() []api.Attitude {
	var out []api.Attitude
	for _, x := range wrongNumbers() {
		for _, y := range []api.Rat{"0", "1/3", "2", "-5", x} {
			out = append(out, api.Attitude{Heel: x, Trim: y}, api.Attitude{Heel: y, Trim: x})
		}
	}
	return out
}

// farAttitudes are out of range.
func farAttitudes() []api.Attitude {
	return []api.Attitude{at("2 0"), at("-2 0"), at("1000000000000000000001/1000000000000000000000 0"), at("-9/8 1/2"), at("0 1"), at("0 -1"), at("1 501/1000"), at("-1 -501/1000"), at("7 7")}
}

// open returns solids that are not closed.
func open(t *testing.T) []api.Solid {
	t.Helper()
	s, a, b := example(t), vec("1 0 0"), vec("0 1 0")
	return []api.Solid{s[1:], s[:11], append(slices.Clone(s), s[0]), {{a, b, vec("0 0 0")}}, {{a, a, b}, {a, b, b}, {a, b, a}, {b, vec("0 0 0"), a}}}
}

// Section Errors: the number of triangles comes ahead of all others.
func TestNumbersOfTriangles(t *testing.T) {
	many := slices.Repeat(api.Solid{{}}, api.MaxTriangles+1)
	for _, a := range slices.Concat(wrongAttitudes()[:6], farAttitudes(), attitudes()) {
		for _, d := range []api.Rat{"1", "x"} {
			expect(t, a, api.ErrEmpty, asked(nil, a, d)...)
			expect(t, a, api.ErrEmpty, asked(api.Solid{}, a, d)...)
			expect(t, a, api.ErrEmpty, askedAt(nil, a, d, "x"))
			expect(t, a, api.ErrTooLarge, asked(many, a, d)...)
			expect(t, a, api.ErrTooLarge, askedAt(many, a, d, "x"))
		}
	}
}

// Section Errors: numbers that are not valid come ahead of attitudes out of range, and of solids that are not closed.
func TestNumbersThatAreNotValid(t *testing.T) {
	for _, s := range append(open(t), example(t)) {
		for _, a := range wrongAttitudes() {
			expect(t, a, api.ErrArg, asked(s, a, "1")...)
		}
		for _, a := range append(farAttitudes(), at("0 0"), at("1/2 1/3")) {
			for _, x := range wrongNumbers() {
				expect(t, x, api.ErrArg, asked(s, a, x)...)
				expect(t, x, api.ErrArg, askedAt(s, a, "1", x))
			}
		}
	}
	for _, s := range wrongSolids(t) {
		for _, a := range append(farAttitudes(), at("0 0")) {
			expect(t, s, api.ErrArg, asked(s, a, "1")...)
		}
	}
}

// Section Errors: attitudes out of range come ahead of solids that are not closed.
func TestAttitudesOutOfRange(t *testing.T) {
	for _, s := range append(open(t), example(t)) {
		for _, a := range farAttitudes() {
			expect(t, a, api.ErrRange, asked(s, a, "1")...)
		}
	}
}

// Section Errors: also if nothing of the solid is in the water, or all is.
func TestSolidsThatAreNotClosed(t *testing.T) {
	for _, s := range open(t) {
		for _, a := range attitudes() {
			for _, d := range []api.Rat{"0", "1", "-100", "100"} {
				expect(t, s, api.ErrOpen, asked(s, a, d)...)
			}
		}
		expect(t, s, api.ErrOpen, askedTable(s, list("0 1"), list("0 1")), askedTable(s, nil, nil), askedTable(s, list("-7"), nil), askedTable(s, nil, list("-7")))
	}
}

// Section Errors: those of a table, each one beside all that come behind it.
func TestErrorsOfTables(t *testing.T) {
	wrong, many := list("1 x 0"), count(api.MaxStations+1)
	for _, s := range append(open(t), example(t), nil) {
		for _, l := range [][]api.Rat{nil, list("0 1"), wrong, many, append(many, wrong...), list("1 0")} {
			for _, m := range [][2][]api.Rat{{many, l}, {l, many}} {
				if s == nil {
					expect(t, l, api.ErrEmpty, askedTable(s, l, l), askedTable(api.Solid{}, l, m[0]))
					continue
				}
				expect(t, l, api.ErrTooLarge, askedTable(s, m[0], m[1]), askedTable(slices.Repeat(s, api.MaxTriangles+1), m[0], m[1]))
			}
		}
		if s == nil {
			continue
		}
		for _, x := range wrongNumbers() {
			for _, l := range [][]api.Rat{nil, list("0 1"), list("1 0"), list("1 1")} {
				expect(t, x, api.ErrArg, askedTable(s, append(slices.Clone(l), x), l), askedTable(s, l, append([]api.Rat{x}, l...)))
			}
		}
		for _, l := range [][]api.Rat{list("1 0"), list("0 0"), list("-1/2 1/3 1/3"), list("1/2 1/3 2"), list("1 2 3 10 9")} {
			expect(t, l, api.ErrOrder, askedTable(s, l, nil), askedTable(s, nil, l), askedTable(s, l, list("1 2")), askedTable(s, list("1 2"), l), askedTable(s, l, l))
		}
	}
	for _, s := range wrongSolids(t) {
		expect(t, s, api.ErrArg, askedTable(s, nil, nil), askedTable(s, list("1 0"), nil), askedTable(s, nil, list("0 0")))
		expect(t, s, api.ErrTooLarge, askedTable(s, many, nil), askedTable(s, nil, many))
	}
	expect(t, "many", api.ErrTooLarge, askedTable(slices.Repeat(api.Solid{{}}, api.MaxTriangles+1), wrong, wrong))
}

// DOC P2, P3, section Rules: calls at once, and in any order, return what calls alone return, and change no arguments; a later change of a result changes no other one.
func TestCallsAtOnce(t *testing.T) {
	type call struct {
		s api.Solid
		a api.Attitude
		d api.Rat
	}
	var calls []call
	for _, s := range bodies(t)[:9] {
		for _, a := range attitudes()[:3] {
			calls = append(calls, call{s, a, levels(t, s, a)[5]})
		}
	}
	askAll := func(c call) []answer {
		return append(asked(c.s, c.a, c.d), askedTable(c.s, list("-1 0 1/2 3"), list("1/3 1")))
	}
	var alone [][]answer
	for _, c := range calls {
		before := slices.Clone(c.s)
		alone = append(alone, askAll(c))
		if !slices.Equal(before, c.s) {
			t.Errorf("%v has become %v", before, c.s)
		}
	}
	var group sync.WaitGroup
	for range 4 {
		group.Go(func() {
			for i, c := range slices.Backward(calls) {
				again := askAll(c)
				if !slices.EqualFunc(again, alone[i], isSame) {
					t.Errorf("%v: %v and %v", c, again, alone[i])
				}
				clear(again[1].Breaks)
				for _, row := range again[3].Table {
					clear(row)
				}
			}
		})
	}
	group.Wait()
}
