package polynomial

import (
	"math/rand"
	"reflect"
	"slices"
	"sync"
	"testing"

	"garboard/api"
)

// answer is what a function returned.
type answer struct {
	First, Second api.Poly
	Number        api.Rat
	Of            api.Interval
	Error         api.Errno
}

func one(p api.Poly, e api.Errno) answer           { return answer{First: p, Error: e} }
func two(q, rest api.Poly, e api.Errno) answer     { return answer{First: q, Second: rest, Error: e} }
func number(x api.Rat, e api.Errno) answer         { return answer{Number: x, Error: e} }
func enclosure(a api.Interval, e api.Errno) answer { return answer{Of: a, Error: e} }

// expect checks that there is nothing but an error.
func expect(t *testing.T, what any, e api.Errno, answers ...answer) {
	t.Helper()
	for i, got := range answers {
		if !reflect.DeepEqual(got, answer{Error: e}) {
			t.Errorf("%q: answer %d is %v instead of the error %d", what, i, got, e)
		}
	}
}

// wrong returns polynomials that are not valid.
func wrong() []api.Poly {
	out := []api.Poly{read("0"), read("1 2 0"), slices.Repeat(api.Poly{"1"}, api.MaxDegree+2), append(slices.Repeat(api.Poly{"0"}, 40), "1")}
	for _, x := range none {
		out = append(out, api.Poly{x}, api.Poly{x, "1"}, api.Poly{"1", x}, slices.Repeat(api.Poly{x}, api.MaxDegree+2))
	}
	return out
}

// greatest returns a polynomial of the greatest degree.
func greatest() api.Poly { return append(slices.Repeat(api.Poly{"0"}, api.MaxDegree), "-1/2") }

// Section Errors, DOC P1: ErrArg comes ahead of ErrLimit and ErrZero, and every other result is zero.
func TestPolynomialsThatAreNotValid(t *testing.T) {
	in := api.Interval{Lo: "0", Hi: "1"}
	for _, p := range wrong() {
		expect(t, p, api.ErrArg, number(Eval(p, "1")), one(Derive(p)), one(Integrate(p)), one(Shift(p, "1")), enclosure(Enclose(p, in)))
		expect(t, p, api.ErrArg, number(Eval(p, "x")), one(Shift(p, "x")), enclosure(Enclose(p, api.Interval{})))
		for _, r := range append(wrong(), nil, read("1"), read("0 1"), greatest()) {
			expect(t, p, api.ErrArg, one(Add(p, r)), one(Sub(p, r)), one(Mul(p, r)), two(DivMod(p, r)), one(GCD(p, r)))
			expect(t, p, api.ErrArg, one(Add(r, p)), one(Sub(r, p)), one(Mul(r, p)), two(DivMod(r, p)), one(GCD(r, p)))
		}
	}
}

// Section Errors: also where a number does not matter.
func TestNumbersThatAreNotValid(t *testing.T) {
	for _, p := range []api.Poly{nil, read("1"), read("1 2 3"), greatest()} {
		for _, x := range none {
			expect(t, x, api.ErrArg, number(Eval(p, x)), one(Shift(p, x)))
			for _, a := range []api.Interval{{Lo: x, Hi: x}, {Lo: "0", Hi: x}, {Lo: x, Hi: "0"}} {
				expect(t, a, api.ErrArg, enclosure(Enclose(p, a)))
			}
		}
		for _, a := range []api.Interval{{Lo: "1", Hi: "0"}, {Lo: "1/2", Hi: "1/3"}, {Lo: "-1", Hi: "-2"}} {
			expect(t, a, api.ErrArg, enclosure(Enclose(p, a)))
		}
	}
}

// Section Errors: too many numbers come ahead of those that are not valid, and zeros at the end count.
func TestMakeOfTheWrongNumbers(t *testing.T) {
	for _, x := range append(none, "0", "1") {
		for _, n := range []int{api.MaxDegree + 2, 100} {
			expect(t, x, api.ErrTooLarge, one(Make(slices.Repeat([]api.Rat{x}, n))), one(Make(append([]api.Rat{"1"}, slices.Repeat([]api.Rat{x}, n-1)...))))
		}
	}
	for _, x := range none {
		expect(t, x, api.ErrArg, one(Make([]api.Rat{x})), one(Make([]api.Rat{"1", x, "1"})), one(Make([]api.Rat{x, "0"})), one(Make(append(slices.Repeat([]api.Rat{"0"}, api.MaxDegree), x))))
	}
}

// Section Errors: the zero polynomial has no degree that could be too great.
func TestDegreesThatAreTooGreat(t *testing.T) {
	top := greatest()
	expect(t, top, api.ErrLimit, one(Integrate(top)), one(Mul(top, top)), one(Mul(top, read("0 1"))), one(Mul(read("1 1"), top)), one(Mul(slices.Repeat(api.Poly{"1"}, 9), slices.Repeat(api.Poly{"1"}, 10))))
	for _, zero := range []api.Poly{nil, {}} {
		for _, got := range []answer{one(Mul(top, zero)), one(Mul(zero, top)), one(Mul(zero, zero)), one(Integrate(zero))} {
			if len(got.First) > 0 || got.Error != api.OK {
				t.Errorf("of the zero polynomial: %v", got)
			}
		}
	}
	if p, e := Mul(top, read("-2")); e != api.OK || !slices.Equal(p, append(slices.Repeat(api.Poly{"0"}, api.MaxDegree), "1")) {
		t.Errorf("the product is %v, %d", p, e)
	}
	if p, e := Integrate(top[1:]); e != api.OK || !slices.Equal(p, append(slices.Repeat(api.Poly{"0"}, api.MaxDegree), "-1/32")) {
		t.Errorf("the integral is %v, %d", p, e)
	}
}

// Section Errors
func TestDivisionByZero(t *testing.T) {
	for _, p := range []api.Poly{nil, {}, read("1"), read("1 2 3"), greatest()} {
		expect(t, p, api.ErrZero, two(DivMod(p, nil)), two(DivMod(p, api.Poly{})))
	}
}

// askAll calls every function.
func askAll(p, r api.Poly) []answer {
	out := []answer{one(Make(p)), one(Add(p, r)), one(Sub(p, r)), one(Mul(p, r)), two(DivMod(p, r)), one(GCD(p, r)), number(Eval(p, "-2/3")), one(Derive(p)), one(Integrate(p)), one(Shift(p, "1/2")), one(Shift(p, "0")), enclosure(Enclose(p, api.Interval{Lo: "-1/2", Hi: "2"}))}
	if Valid(p) {
		out = append(out, answer{Number: "valid"})
	}
	return out
}

// The chapter, DOC section Rules: arguments are not changed, results share no memory with them, and a quotient none with a remainder.
func TestMemoryIsNotShared(t *testing.T) {
	all := polynomials(rand.New(rand.NewSource(15)), api.MaxDegree)
	for i := range all {
		p, r := texts(all[i]), texts(all[(i*13+5)%len(all)])
		for k, got := range askAll(p, r) {
			overwrite(got.First)
			if slices.Contains(got.Second, "changed") {
				t.Errorf("the results of answer %d for %v and %v share memory", k, p, r)
			}
			overwrite(got.Second)
			if !slices.Equal(p, texts(all[i])) || !slices.Equal(r, texts(all[(i*13+5)%len(all)])) {
				t.Fatalf("answer %d has changed the arguments", k)
			}
		}
		kept, again := askAll(p, r), askAll(slices.Clone(p), slices.Clone(r))
		overwrite(p)
		overwrite(r)
		if !reflect.DeepEqual(kept, again) {
			t.Errorf("results for %v and %v have changed", texts(all[i]), texts(all[(i*13+5)%len(all)]))
		}
	}
}

// overwrite changes all of the memory of a list.
func overwrite(l []api.Rat) {
	l = l[:cap(l)]
	for i := range l {
		l[i] = "changed"
	}
}

// DOC P2, P3: calls at once, and in any order, return what calls alone return.
func TestCallsAtOnce(t *testing.T) {
	all := polynomials(rand.New(rand.NewSource(16)), api.MaxDegree)
	ask := func(i int) []answer { return askAll(texts(all[i]), texts(all[(i*3+2)%len(all)])) }
	alone := make([][]answer, len(all))
	for i := range all {
		alone[i] = ask(i)
	}
	var group sync.WaitGroup
	for range 4 {
		group.Go(func() {
			for i := len(all) - 1; i >= 0; i-- {
				if again := ask(i); !reflect.DeepEqual(again, alone[i]) {
					t.Errorf("%v: %v and %v", texts(all[i]), again, alone[i])
				}
			}
		})
	}
	group.Wait()
}
