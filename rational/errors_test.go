package rational

import (
	"slices"
	"sync"
	"testing"

	"garboard/api"
)

// answer is what a function returned; First and Second are its results that are not errors.
type answer struct {
	First, Second string
	Order         int
	Error         api.Errno
}

// ask calls every function of two numbers.
func ask(a, b api.Rat) []answer {
	order, e := Compare(a, b)
	answers := []answer{{Order: order, Error: e}}
	for _, f := range []func(a, b api.Rat) (api.Rat, api.Errno){Add, Sub, Mul, Div, Simplest} {
		c, e := f(a, b)
		answers = append(answers, answer{First: string(c), Error: e})
	}
	return answers
}

// askOne calls every function of one number.
func askOne(a api.Rat) []answer {
	num, den, e := Parts(a)
	answers := []answer{{First: num, Second: den, Error: e}}
	whole, e := Floor(a)
	answers = append(answers, answer{First: whole, Error: e})
	for _, n := range []int{-1, 0, 1, 64, 65} {
		text, e := Decimal(a, n)
		answers = append(answers, answer{First: text, Error: e})
	}
	return answers
}

// Section Errors, DOC P1: ErrArg comes first, and every other result is zero.
func TestArgumentsThatAreNoNumbers(t *testing.T) {
	bad := answer{Error: api.ErrArg}
	for _, a := range none {
		answers := askOne(a)
		for _, b := range append([]api.Rat{"0", "1", "-1/2", "-12345678901234567890123/7"}, none...) {
			answers = append(answers, ask(a, b)...)
			answers = append(answers, ask(b, a)...)
		}
		if i := slices.IndexFunc(answers, func(got answer) bool { return got != bad }); i >= 0 {
			t.Errorf("%q: answer %d is %v", a, i, answers[i])
		}
	}
}

// Section Errors
func TestPartsThatAreNoIntegers(t *testing.T) {
	for _, a := range []string{"", "-", "-0", "+1", "01", "1/2", "1.0", "1 ", "\xff", "12345678901234567890x"} {
		for _, b := range []string{"0", "1", "-7", "12345678901234567890", a} {
			if x, e := Make(a, b); x != "" || e != api.ErrArg {
				t.Errorf("Make(%q, %q) is %q, %d", a, b, x, e)
			}
			if x, e := Make(b, a); x != "" || e != api.ErrArg {
				t.Errorf("Make(%q, %q) is %q, %d", b, a, x, e)
			}
		}
	}
}

// Section Errors
func TestDivisionByZero(t *testing.T) {
	for _, a := range []string{"0", "1", "-1", "99999999999999999999999999"} {
		if x, e := Make(a, "0"); x != "" || e != api.ErrZero {
			t.Errorf("Make(%s, 0) is %q, %d", a, x, e)
		}
		if x, e := Div(api.Rat(a), "0"); x != "" || e != api.ErrZero {
			t.Errorf("%s / 0 is %q, %d", a, x, e)
		}
	}
	if x, e := Div("-1/2", "0"); x != "" || e != api.ErrZero {
		t.Errorf("-1/2 / 0 is %q, %d", x, e)
	}
}

// Section Errors
func TestPlacesOutOfRange(t *testing.T) {
	for _, n := range []int{-1, 65, -1 << 63, 1<<63 - 1} {
		for _, a := range []api.Rat{"0", "1/3", "-99999999999999999999999"} {
			if text, e := Decimal(a, n); text != "" || e != api.ErrRange {
				t.Errorf("%s with %d places is %q, %d", a, n, text, e)
			}
		}
	}
}

// Section Errors
func TestSimplestInTheWrongOrder(t *testing.T) {
	for _, c := range [][2]api.Rat{{"1", "0"}, {"0", "-1"}, {"1/2", "1/3"}, {"-1/3", "-1/2"}, {"1/3", "-1/2"}, {"1/12345678901234567890", "1/12345678901234567891"}} {
		if x, e := Simplest(c[0], c[1]); x != "" || e != api.ErrOrder {
			t.Errorf("the simplest number from %s to %s is %q, %d", c[0], c[1], x, e)
		}
	}
}

// DOC P2, P3: calls at once, and in any order, return what calls alone return.
func TestCallsAtOnce(t *testing.T) {
	numbers := samples()
	alone := make([][]answer, len(numbers))
	for i, a := range numbers {
		alone[i] = append(ask(a, numbers[len(numbers)-1-i]), askOne(a)...)
	}
	var group sync.WaitGroup
	for range 4 {
		group.Go(func() {
			for i := len(numbers) - 1; i >= 0; i-- {
				again := append(ask(numbers[i], numbers[len(numbers)-1-i]), askOne(numbers[i])...)
				for k, got := range again {
					if got != alone[i][k] {
						t.Errorf("%s: %v and %v", numbers[i], got, alone[i][k])
					}
				}
			}
		})
	}
	group.Wait()
}
