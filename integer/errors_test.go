package integer

import (
	"strings"
	"sync"
	"testing"

	"garboard/api"
)

// answer is what a function returned; Results are those that are not errors.
type answer struct {
	Results [3]string
	Order   int
	Error   api.Errno
}

// ask calls every function of two numbers.
func ask(a, b string) []answer {
	order, e := Compare(a, b)
	answers := []answer{{Order: order, Error: e}}
	for _, f := range []func(a, b string) (string, api.Errno){Add, Sub, Mul} {
		s, e := f(a, b)
		answers = append(answers, answer{Results: [3]string{s}, Error: e})
	}
	quotient, rest, e := DivMod(a, b)
	answers = append(answers, answer{Results: [3]string{quotient, rest}, Error: e})
	common, x, y, e := Bezout(a, b)
	return append(answers, answer{Results: [3]string{common, x, y}, Error: e})
}

// askOne calls every function of one number.
func askOne(a string) []answer {
	sign, e := Sign(a)
	answers := []answer{{Order: sign, Error: e}}
	for _, f := range []func(a string) (string, api.Errno){Abs, Neg} {
		s, e := f(a)
		answers = append(answers, answer{Results: [3]string{s}, Error: e})
	}
	return answers
}

// Section Errors, DOC P1: ErrArg comes first, and every other result is zero.
func TestArgumentsThatAreNoIntegers(t *testing.T) {
	bad := answer{Error: api.ErrArg}
	for _, a := range none {
		answers := askOne(a)
		for _, b := range append([]string{"0", "1", "-12345678901234567890123"}, none...) {
			answers = append(answers, ask(a, b)...)
			answers = append(answers, ask(b, a)...)
		}
		for i, got := range answers {
			if got != bad {
				t.Errorf("%q: answer %d is %v", a, i, got)
			}
		}
	}
}

// Section Errors
func TestDivisionByZero(t *testing.T) {
	for _, a := range []string{"0", "1", "-1", "-" + strings.Repeat("9", 100)} {
		if q, r, e := DivMod(a, "0"); q != "" || r != "" || e != api.ErrZero {
			t.Errorf("%s / 0 is %q, %q, %d", a, q, r, e)
		}
	}
}

// DOC P2, P3: calls at once, and in any order, return what calls alone return.
func TestCallsAtOnce(t *testing.T) {
	numbers := samples()
	alone := make([][]answer, len(numbers))
	for i, a := range numbers {
		alone[i] = append(ask(a, numbers[len(numbers)-1-i]), askOne(a)...)
	}
	var group sync.WaitGroup
	for range 4 {
		group.Go(func() {
			for i := len(numbers) - 1; i >= 0; i-- {
				again := append(ask(numbers[i], numbers[len(numbers)-1-i]), askOne(numbers[i])...)
				for k, got := range again {
					if got != alone[i][k] {
						t.Errorf("%s: %v and %v", numbers[i], got, alone[i][k])
					}
				}
			}
		})
	}
	group.Wait()
}
