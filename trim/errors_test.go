package trim

import (
	"slices"
	"sync"
	"testing"

	"garboard/api"
)

// none are strings that are no numbers.
var none = []api.Rat{"", "-0", "2/4", "1.5", "01", "1/0", "4/1", "x", "\xff", "123456789012345678901234567890/246913578024691357802469135780"}

// answer is what a function returned.
type answer struct {
	Level, Lever api.Interval
	Balance      api.Balance
	Error        api.Errno
}

func askedLever(s api.Solid, a api.Attitude, volume api.Rat, g api.Vector, k int) answer {
	level, lever, e := Lever(s, a, volume, g, k)
	return answer{Level: level, Lever: lever, Error: e}
}

func askedBalance(s api.Solid, heel, volume api.Rat, g api.Vector, trims [2]api.Rat, k, n int) answer {
	b, e := Balance(s, heel, volume, g, trims, k, n)
	return answer{Balance: b, Error: e}
}

func askedCheck(s api.Solid, volume api.Rat, g api.Vector, b api.Balance) answer {
	return answer{Error: Check(s, volume, g, b)}
}

// centre is a centre of gravity.
func centre() api.Vector { return point("6 0 1") }

// wrongBalance has numbers that are valid, and is not right for any solid.
func wrongBalance(heel, low, high api.Rat) api.Balance {
	i := between("2 1")
	return api.Balance{Heel: heel, Lo: low, Hi: high, LoLevel: i, HiLevel: i, LoLever: i, HiLever: i}
}

// asked calls all functions at an attitude, each one with another mistake that comes late.
func asked(s api.Solid, a api.Attitude, volume api.Rat) []answer {
	return []answer{
		askedLever(s, a, volume, centre(), 3),
		askedBalance(s, a.Heel, volume, centre(), [2]api.Rat{a.Trim, "1/2"}, 3, 3),
		askedBalance(s, a.Heel, volume, centre(), [2]api.Rat{"-1/2", a.Trim}, 3, 3),
		askedCheck(s, volume, centre(), wrongBalance(a.Heel, a.Trim, "0")),
		askedCheck(s, volume, centre(), wrongBalance(a.Heel, "0", a.Trim)),
	}
}

// expect checks that there is nothing but an error.
func expect(t *testing.T, what any, e api.Errno, answers ...answer) {
	t.Helper()
	for i, got := range answers {
		if got != (answer{Error: e}) {
			t.Errorf("%v: answer %d is %v instead of the error %d", what, i, got, e)
		}
	}
}

// wrongSolids have what is no number at some place.
func wrongSolids(t *testing.T) []api.Solid {
	t.Helper()
	out := []api.Solid{{{}}}
	for i, x := range none {
		for _, r := range []api.Vector{{X: x, Y: "1", Z: "1"}, {X: "1", Y: x, Z: "1"}, {X: "0", Y: "0", Z: x}} {
			s := example(t)
			s[len(s)-1][i%3] = r
			out = append(out, s, api.Solid{{r, r, r}})
		}
	}
	return out
}

// wrongAttitudes have what is no number, also beside a number that is out of range.
func wrongAttitudes() []api.Attitude {
	var out []api.Attitude
	for _, x := range none {
		for _, y := range []api.Rat{"0", "1/3", "2", "-5", x} {
			out = append(out, api.Attitude{Heel: x, Trim: y}, api.Attitude{Heel: y, Trim: x})
		}
	}
	return out
}

// farAttitudes are out of range.
func farAttitudes() []api.Attitude {
	return []api.Attitude{at("2 0"), at("-2 0"), at("1000000000000000000001/1000000000000000000000 0"), at("-9/8 1/3"), at("0 1"), at("0 -1"), at("1 501/1000"), at("-1 -501/1000"), at("7 7")}
}

// open returns solids that are not closed.
func open(t *testing.T) []api.Solid {
	t.Helper()
	s, a, b := example(t), point("1 0 0"), point("0 1 0")
	return []api.Solid{s[1:], s[:11], append(slices.Clone(s), s[0]), {{a, b, point("0 0 0")}}, {{a, a, b}, {a, b, b}, {a, b, a}, {b, point("0 0 0"), a}}}
}

// farHalvings are out of range.
var farHalvings = []int{-1, api.MaxHalvings + 1, -1 << 63, 1<<63 - 1}

// Section Errors: the number of triangles comes ahead of all others.
func TestNumbersOfTriangles(t *testing.T) {
	many := slices.Repeat(api.Solid{{}}, api.MaxTriangles+1)
	for _, a := range slices.Concat(wrongAttitudes()[:6], farAttitudes(), attitudes()) {
		for _, volume := range []api.Rat{"1", "-1", "x"} {
			expect(t, a, api.ErrEmpty, asked(nil, a, volume)...)
			expect(t, a, api.ErrEmpty, asked(api.Solid{}, a, volume)...)
			expect(t, a, api.ErrTooLarge, asked(many, a, volume)...)
		}
	}
	for _, k := range farHalvings {
		expect(t, k, api.ErrEmpty, askedLever(nil, at("0 0"), "1", centre(), k), askedBalance(nil, "0", "1", centre(), pair("1 0"), k, k))
		expect(t, k, api.ErrTooLarge, askedLever(many, at("0 0"), "1", centre(), k), askedBalance(many, "0", "1", centre(), pair("1 0"), k, k))
	}
	if _, _, e := Lever(slices.Repeat(example(t), 42), at("0 0"), "40", centre(), 1); e != api.OK {
		t.Errorf("504 triangles: %d", e)
	}
}

// Section Errors: numbers that are not valid come ahead of attitudes and halvings out of range, and of solids that are not closed.
func TestNumbersThatAreNotValid(t *testing.T) {
	for _, s := range append(open(t), example(t)) {
		for _, a := range wrongAttitudes() {
			expect(t, a, api.ErrArg, asked(s, a, "1")...)
			expect(t, a, api.ErrArg, askedLever(s, a, "-1", centre(), -1), askedBalance(s, a.Heel, "-1", centre(), [2]api.Rat{a.Trim, a.Trim}, -1, 25))
		}
		for i, x := range none {
			for _, a := range append(farAttitudes(), at("0 0")) {
				expect(t, x, api.ErrArg, asked(s, a, x)...)
				wrong := []api.Vector{{X: x, Y: "1", Z: "1"}, {X: "1", Y: x, Z: "1"}, {X: "0", Y: "0", Z: x}}[i%3]
				expect(t, wrong, api.ErrArg,
					askedLever(s, a, "0", wrong, 99),
					askedBalance(s, a.Heel, "0", wrong, [2]api.Rat{a.Trim, "-1"}, 99, 99),
					askedCheck(s, "0", wrong, wrongBalance(a.Heel, a.Trim, "0")))
			}
		}
	}
	for _, s := range wrongSolids(t) {
		for _, a := range append(farAttitudes(), at("0 0")) {
			expect(t, s, api.ErrArg, asked(s, a, "1")...)
			expect(t, s, api.ErrArg, askedLever(s, a, "-1", centre(), -1), askedBalance(s, a.Heel, "-1", centre(), pair("1 0"), -1, -1))
		}
	}
}

// Section Errors: each number of a balance.
func TestNumbersOfBalances(t *testing.T) {
	for _, x := range none {
		for i := range 11 {
			for _, heel := range []api.Rat{"0", "3"} {
				b := wrongBalance(heel, "-2", "0")
				*[]*api.Rat{&b.Heel, &b.Lo, &b.Hi, &b.LoLevel.Lo, &b.LoLevel.Hi, &b.HiLevel.Lo, &b.HiLevel.Hi, &b.LoLever.Lo, &b.LoLever.Hi, &b.HiLever.Lo, &b.HiLever.Hi}[i] = x
				expect(t, b, api.ErrArg, askedCheck(example(t), "40", centre(), b), askedCheck(example(t)[1:], "-40", centre(), b))
			}
		}
	}
	expect(t, "the zero balance", api.ErrArg, askedCheck(example(t), "40", centre(), api.Balance{}))
}

// Section Errors: attitudes, halvings and ends out of range come ahead of solids that are not closed.
func TestAttitudesHalvingsAndEndsOutOfRange(t *testing.T) {
	for _, s := range append(open(t), example(t)) {
		for _, a := range farAttitudes() {
			expect(t, a, api.ErrRange, asked(s, a, "1")...)
		}
		for _, k := range farHalvings {
			expect(t, k, api.ErrRange, askedLever(s, at("1/2 1/3"), "1", centre(), k), askedBalance(s, "0", "1", centre(), pair("0 1/8"), k, 3), askedBalance(s, "0", "1", centre(), pair("0 1/8"), 3, k))
		}
		for _, trims := range []string{"1/8 0", "0 0", "1/2 -1/2", "1/3 333333333333/1000000000000"} {
			expect(t, trims, api.ErrRange, askedBalance(s, "0", "40", centre(), pair(trims), 3, 3))
		}
	}
}

// Section Errors: solids that are not closed come ahead of volumes out of range, and of balances that are not right.
func TestSolidsThatAreNotClosed(t *testing.T) {
	for _, s := range open(t) {
		for _, a := range []api.Attitude{at("0 0"), at("1 1/3"), at("-1/3 -1/9")} {
			for _, volume := range []api.Rat{"0", "1", "-100", "1000000"} {
				expect(t, s, api.ErrOpen, asked(s, a, volume)...)
			}
		}
	}
}

// Section Errors: also for a solid inside out, of which no volume is in range.
func TestVolumesOutOfRange(t *testing.T) {
	for _, a := range []api.Attitude{at("0 0"), at("1 1/3"), at("-1/3 -1/9")} {
		for _, volume := range []api.Rat{"0", "-1", "-1/1000000000000", "-121"} {
			expect(t, volume, api.ErrRange, asked(example(t), a, volume)...)
		}
		for _, volume := range []api.Rat{"120000000001/1000000000", "121"} {
			answers := asked(example(t), a, volume)
			expect(t, volume, api.ErrRange, answers[:3]...)
			expect(t, volume, api.ErrProof, answers[3:]...)
		}
		for _, volume := range []api.Rat{"-120", "-40", "0", "40", "120"} {
			expect(t, volume, api.ErrRange, asked(reversed(t, example(t)), a, volume)[:3]...)
		}
		if got := askedLever(example(t), a, "120", centre(), 0); got.Error != api.OK || got.Level == (api.Interval{}) {
			t.Errorf("%v: %v", a, got)
		}
	}
	expect(t, "inside out", api.ErrProof, askedCheck(reversed(t, example(t)), "40", centre(), wrongBalance("0", "0", "1/8")))
	right := need[api.Balance](t)(Balance(example(t), "0", "40", centre(), pair("0 1/8"), 6, 3))
	for _, volume := range []api.Rat{"0", "-40"} {
		expect(t, volume, api.ErrRange, askedCheck(example(t), volume, centre(), right))
	}
}

// Section Errors: one sign that is not sure comes ahead of signs that are equal.
func TestSignsAtTheEnds(t *testing.T) {
	for _, c := range []struct {
		g, trims string
		want     api.Errno
	}{
		{"6 0 1", "0 1/8", api.OK},
		{"5 0 1", "0 1/8", api.ErrUndecided},
		{"5 0 1", "-1/8 0", api.ErrUndecided},
		{"5 0 1", "-1/1000000 1/1000000", api.ErrUndecided},
		{"5 0 1", "1/16 1/8", api.ErrMismatch},
		{"5 0 1", "-1/8 -1/16", api.ErrMismatch},
		{"-50 0 1", "-1/2 1/2", api.ErrMismatch},
	} {
		for _, n := range []int{0, 1, api.MaxHalvings} {
			got := askedBalance(example(t), "0", "40", point(c.g), pair(c.trims), 9, n)
			if got.Error != c.want {
				t.Errorf("%v: the error %d", c, got.Error)
			}
			if c.want != api.OK {
				expect(t, c, c.want, got)
			}
		}
	}
}

// DOC P2, P3, section Rules: calls at once, and in any order, return what calls alone return, and change no arguments.
func TestCallsAtOnce(t *testing.T) {
	askAll := func(c trial) []answer {
		b := askedBalance(c.s, c.heel, c.volume, c.g, c.trims, c.k, 2)
		return []answer{b, askedCheck(c.s, c.volume, c.g, b.Balance), askedLever(c.s, api.Attitude{Heel: c.heel, Trim: c.trims[0]}, c.volume, c.g, 3)}
	}
	var alone [][]answer
	l := trials(t)
	for _, c := range l {
		before := slices.Clone(c.s)
		alone = append(alone, askAll(c))
		if !slices.Equal(before, c.s) {
			t.Errorf("%v has become %v", before, c.s)
		}
	}
	var group sync.WaitGroup
	for range 4 {
		group.Go(func() {
			for i := range slices.Backward(alone) {
				if again := askAll(l[i]); !slices.Equal(again, alone[i]) {
					t.Errorf("%v and %v", again, alone[i])
				}
			}
		})
	}
	group.Wait()
}
