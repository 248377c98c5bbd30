package sturm

import (
	"math/rand"
	"reflect"
	"slices"
	"sync"
	"testing"

	"garboard/api"
)

// none are strings that are no numbers.
var none = []api.Rat{"", "-0", "2/4", "1.5", "01", "1/0", "4/1", "x", "\xff", "123456789012345678901234567890/246913578024691357802469135780"}

// answer is what a function returned.
type answer struct {
	P             api.Poly
	Number        int
	Is            bool
	List          []api.Interval
	First, Second api.Interval
	Error         api.Errno
}

func simple(p api.Poly) answer {
	got, e := Simple(p)
	return answer{P: got, Error: e}
}

func counted(p api.Poly, in api.Interval) answer {
	n, e := Count(p, in)
	return answer{Number: n, Error: e}
}

func isolated(p api.Poly, in api.Interval, k int) answer {
	l, e := Isolate(p, in, k)
	return answer{List: l, Error: e}
}

func narrowed(p api.Poly, in api.Interval, k int) answer {
	got, e := Narrow(p, in, k)
	return answer{First: got, Error: e}
}

func positive(p api.Poly, in api.Interval) answer {
	is, e := Positive(p, in)
	return answer{Is: is, Error: e}
}

func extremes(p api.Poly, in api.Interval, k int) answer {
	least, greatest, e := Extremes(p, in, k)
	return answer{First: least, Second: greatest, Error: e}
}

// expect checks that there is nothing but an error.
func expect(t *testing.T, what any, e api.Errno, answers ...answer) {
	t.Helper()
	for i, got := range answers {
		if !reflect.DeepEqual(got, answer{Error: e}) {
			t.Errorf("%q: answer %d is %v instead of the error %d", what, i, got, e)
		}
	}
}

// all calls every function with a range.
func all(p api.Poly, in api.Interval, k int) []answer {
	return []answer{counted(p, in), isolated(p, in, k), narrowed(p, in, k), positive(p, in), extremes(p, in, k)}
}

// wrong returns polynomials that are not valid.
func wrong() []api.Poly {
	out := []api.Poly{read("0"), read("1 2 0"), slices.Repeat(api.Poly{"1"}, api.MaxDegree+2), append(slices.Repeat(api.Poly{"0"}, 40), "1")}
	for _, x := range none {
		out = append(out, api.Poly{x}, api.Poly{x, "1"}, api.Poly{"1", x}, slices.Repeat(api.Poly{x}, api.MaxDegree+2))
	}
	return out
}

// halvings are some that are permitted, and some that are not.
var halvings = []int{0, 24, -1, 25, 1 << 40}

// Section Errors, DOC P1: ErrArg comes first, and every other result is zero.
func TestPolynomialsThatAreNotValid(t *testing.T) {
	for _, p := range wrong() {
		expect(t, p, api.ErrArg, simple(p))
		for _, in := range []api.Interval{{Lo: "0", Hi: "1"}, {Lo: "1", Hi: "1"}, {Lo: "1", Hi: "0"}, {}} {
			for _, k := range halvings {
				expect(t, p, api.ErrArg, all(p, in, k)...)
			}
		}
	}
}

// Section Errors: also ahead of what is wrong with the zero polynomial.
func TestIntervalsThatAreNotValid(t *testing.T) {
	wrong := []api.Interval{{Lo: "1", Hi: "0"}, {Lo: "1/2", Hi: "1/3"}, {Lo: "-1", Hi: "-2"}}
	for _, x := range none {
		wrong = append(wrong, api.Interval{Lo: x, Hi: x}, api.Interval{Lo: "0", Hi: x}, api.Interval{Lo: x, Hi: "0"})
	}
	for _, in := range wrong {
		for _, p := range []api.Poly{nil, {}, read("1"), read("-1 0 1")} {
			for _, k := range halvings {
				expect(t, in, api.ErrArg, all(p, in, k)...)
			}
		}
	}
}

// Section Errors: ahead of the zero polynomial and of halvings out of range.
func TestRangesOfOneNumber(t *testing.T) {
	for _, x := range []api.Rat{"0", "1", "-7/3", "123456789012345678901234567890"} {
		for _, p := range []api.Poly{nil, {}, read("1"), read("0 1"), read("-1 0 1")} {
			for _, k := range halvings {
				expect(t, x, api.ErrEmpty, all(p, api.Interval{Lo: x, Hi: x}, k)...)
			}
		}
	}
}

// Section Errors: ahead of halvings out of range, but not of Positive and Extremes.
func TestZeroPolynomial(t *testing.T) {
	in := api.Interval{Lo: "-1", Hi: "1"}
	for _, p := range []api.Poly{nil, {}} {
		expect(t, p, api.ErrZero, simple(p), counted(p, in))
		for _, k := range halvings {
			expect(t, p, api.ErrZero, isolated(p, in, k), narrowed(p, in, k))
		}
		expect(t, p, api.OK, positive(p, in))
	}
}

// Section Errors: ahead of roots that cannot be isolated, and of ranges that do not have one root.
func TestHalvingsOutOfRange(t *testing.T) {
	in := api.Interval{Lo: "0", Hi: "1"}
	for _, k := range []int{-1, 25, 1 << 40, -1 << 63, 1<<63 - 1} {
		for _, p := range []api.Poly{read("1"), read("-1/2 1"), read("2/9 -1 1"), read("1 1 1/100")} {
			expect(t, k, api.ErrRange, isolated(p, in, k), narrowed(p, in, k), extremes(p, in, k))
		}
		expect(t, k, api.ErrRange, extremes(nil, in, k))
	}
}

// Section Errors: no root, several ones, and one at the lower end, which does not count.
func TestRangesWithoutOneRoot(t *testing.T) {
	in := api.Interval{Lo: "0", Hi: "1"}
	for _, p := range []string{"1", "1 0 1", "0 1", "0 0 1", "2/9 -1 1", "0 0 1 0 -1 1", "0 2/9 -1 1", "2 -1"} {
		for _, k := range []int{0, 1, 24} {
			expect(t, p, api.ErrState, narrowed(read(p), in, k))
		}
	}
}

// Section Errors: several roots need halvings, but one that is there twice does not.
func TestRootsThatAreNotIsolated(t *testing.T) {
	in := api.Interval{Lo: "0", Hi: "1"}
	for p, least := range map[string]int{"2/9 -1 1": 1, "1/2 -3/2 1": 1, "1/8 -3/4 1": 2, "0 1/8 -3/4 1": 2, "1/9 -2/3 1": 0} {
		for k := range api.MaxHalvings + 1 {
			if got := isolated(read(p), in, k); k < least {
				expect(t, p, api.ErrLimit, got)
			} else if len(got.List) == 0 || got.Error != api.OK {
				t.Errorf("%s with %d halvings: %v", p, k, got)
			}
		}
	}
}

// askAll calls every function.
func askAll(p api.Poly, s span) []answer {
	return append(all(p, s.interval(), 7), simple(p))
}

// The chapter, DOC section Rules: arguments are not changed, and results share no memory with them.
func TestMemoryIsNotShared(t *testing.T) {
	source := rand.New(rand.NewSource(11))
	for _, k := range append(knowns(source, 8), known{p: rats(read("1 -2 1"))}, known{p: rats(read("0 1"))}, known{}) {
		for _, s := range spans(source, 2) {
			p := texts(k.p)
			for _, got := range askAll(p, s) {
				for i := range got.P {
					got.P[i] = "changed"
				}
				if !slices.Equal(p, texts(k.p)) {
					t.Fatalf("%v has become %v", texts(k.p), p)
				}
			}
			kept, again := askAll(p, s), askAll(texts(k.p), s)
			for i := range p {
				p[i] = "changed"
			}
			if !reflect.DeepEqual(kept, again) {
				t.Errorf("results for %v have changed", texts(k.p))
			}
		}
	}
}

// DOC P2, P3: calls at once, and in any order, return what calls alone return.
func TestCallsAtOnce(t *testing.T) {
	source := rand.New(rand.NewSource(12))
	polynomials := knowns(source, 8)
	in := spans(source, len(polynomials))
	ask := func(i int) []answer { return askAll(texts(polynomials[i].p), in[i]) }
	alone := make([][]answer, len(polynomials))
	for i := range polynomials {
		alone[i] = ask(i)
	}
	var group sync.WaitGroup
	for range 4 {
		group.Go(func() {
			for i := len(polynomials) - 1; i >= 0; i-- {
				if again := ask(i); !reflect.DeepEqual(again, alone[i]) {
					t.Errorf("%v: %v and %v", texts(polynomials[i].p), again, alone[i])
				}
			}
		})
	}
	group.Wait()
}
