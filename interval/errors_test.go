package interval

import (
	"slices"
	"sync"
	"testing"

	"garboard/api"
)

// answer is what a function returned.
type answer struct {
	Of    api.Interval
	Sign  int
	Sure  bool
	Error api.Errno
}

// ask calls every function of two intervals that has errors.
func ask(a, b api.Interval) []answer {
	var answers []answer
	for _, f := range []func(a, b api.Interval) (api.Interval, api.Errno){Add, Sub, Mul, Div} {
		c, e := f(a, b)
		answers = append(answers, answer{Of: c, Error: e})
	}
	c, e := Hull([]api.Interval{a, b})
	return append(answers, answer{Of: c, Error: e})
}

// askOne calls every function of one interval that has errors.
func askOne(a api.Interval) []answer {
	square, e := Square(a)
	answers := []answer{{Of: square, Error: e}}
	sign, sure, e := Sign(a)
	answers = append(answers, answer{Sign: sign, Sure: sure, Error: e})
	for _, n := range []int{-1, 0, 1, 10, 1000000001} {
		rounded, e := Round(a, n)
		answers = append(answers, answer{Of: rounded, Error: e})
	}
	return answers
}

// Section Errors, DOC P1: ErrArg comes first, and every other result is zero.
func TestArgumentsThatAreNotValid(t *testing.T) {
	bad := answer{Error: api.ErrArg}
	for _, a := range none {
		answers := askOne(a)
		for _, b := range append([]api.Interval{{Lo: "0", Hi: "0"}, {Lo: "-1", Hi: "1/2"}, {Lo: "1", Hi: long}}, none...) {
			answers = append(answers, ask(a, b)...)
			answers = append(answers, ask(b, a)...)
		}
		if i := slices.IndexFunc(answers, func(got answer) bool { return got != bad }); i >= 0 {
			t.Errorf("%v: answer %d is %v", a, i, answers[i])
		}
	}
	for _, x := range []api.Rat{"", "2/4", "-0", "1.5", "x", "1/12345678901234567890x"} {
		if a, e := Exact(x); a != (api.Interval{}) || e != api.ErrArg {
			t.Errorf("Exact(%q) is %v, %d", x, a, e)
		}
	}
}

// Section Errors
func TestDivisionByZero(t *testing.T) {
	for _, a := range samples() {
		for _, b := range samples() {
			c, e := Div(a, b)
			if isZero := e == api.ErrZero; isZero != hasZero(b) || isZero && c != (api.Interval{}) {
				t.Errorf("%v / %v is %v, %d", a, b, c, e)
			}
		}
	}
}

// Section Errors: the size of a list comes ahead of what is in it.
func TestListsOfTheWrongSize(t *testing.T) {
	long := slices.Repeat([]api.Interval{{Lo: "0", Hi: "1"}}, api.MaxList+1)
	for _, c := range []struct {
		l []api.Interval
		e api.Errno
	}{{nil, api.ErrEmpty}, {[]api.Interval{}, api.ErrEmpty}, {long, api.ErrTooLarge}, {slices.Repeat(none, 100), api.ErrTooLarge}, {append(slices.Clone(long[:api.MaxList-1]), none[0]), api.ErrArg}, {[]api.Interval{{Lo: "0", Hi: "1"}, none[3], {Lo: "0", Hi: "1"}}, api.ErrArg}} {
		if a, e := Hull(c.l); a != (api.Interval{}) || e != c.e {
			t.Errorf("the hull of %d intervals is %v, %d", len(c.l), a, e)
		}
	}
}

// Section Errors
func TestDenominatorsOutOfRange(t *testing.T) {
	for _, n := range []int{0, -1, 1000000001, -1 << 63, 1<<63 - 1} {
		for _, a := range samples() {
			if b, e := Round(a, n); b != (api.Interval{}) || e != api.ErrRange {
				t.Errorf("%v rounded to %d is %v, %d", a, n, b, e)
			}
		}
	}
}

// DOC P2, P3: calls at once, and in any order, return what calls alone return.
func TestCallsAtOnce(t *testing.T) {
	intervals := samples()
	alone := make([][]answer, len(intervals))
	for i, a := range intervals {
		alone[i] = append(ask(a, intervals[len(intervals)-1-i]), askOne(a)...)
	}
	var group sync.WaitGroup
	for range 4 {
		group.Go(func() {
			for i := len(intervals) - 1; i >= 0; i-- {
				again := append(ask(intervals[i], intervals[len(intervals)-1-i]), askOne(intervals[i])...)
				if !slices.Equal(again, alone[i]) {
					t.Errorf("%v: %v and %v", intervals[i], again, alone[i])
				}
			}
		})
	}
	group.Wait()
}
