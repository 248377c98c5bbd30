package natural

import (
	"strings"
	"sync"
	"testing"

	"garboard/api"
)

// answer is what a function returned; First and Second are its results that are not errors.
type answer struct {
	First, Second string
	Order         int
	Error         api.Errno
}

// ask calls every function of two numbers.
func ask(a, b string) []answer {
	order, e := Compare(a, b)
	answers := []answer{{Order: order, Error: e}}
	for _, f := range []func(a, b string) (string, api.Errno){Add, Sub, Mul, GCD} {
		s, e := f(a, b)
		answers = append(answers, answer{First: s, Error: e})
	}
	quotient, rest, e := DivMod(a, b)
	return append(answers, answer{First: quotient, Second: rest, Error: e})
}

// askOne calls every function of one number.
func askOne(a string) []answer {
	root, e := Root(a)
	answers := []answer{{First: root, Error: e}}
	for _, n := range []int{-1, 0, 1, 64, 65} {
		power, e := Pow(a, n)
		answers = append(answers, answer{First: power, Error: e})
	}
	return answers
}

// Section Errors, DOC P1: ErrArg comes first, and every other result is zero.
func TestArgumentsThatAreNoNumbers(t *testing.T) {
	bad := answer{Error: api.ErrArg}
	for _, a := range none {
		answers := askOne(a)
		for _, b := range append([]string{"0", "1", "12345678901234567890123"}, none...) {
			answers = append(answers, ask(a, b)...)
			answers = append(answers, ask(b, a)...)
		}
		for i, got := range answers {
			if got != bad {
				t.Errorf("%q: answer %d is %v", a, i, got)
			}
		}
	}
}

// Section Errors
func TestDifferencesBelowZero(t *testing.T) {
	for _, c := range [][2]string{{"0", "1"}, {"9", "10"}, {"99999999999999999999", "100000000000000000000"}, {"1", strings.Repeat("9", 100)}} {
		if s, e := Sub(c[0], c[1]); s != "" || e != api.ErrRange {
			t.Errorf("%s - %s is %q, %d", c[0], c[1], s, e)
		}
	}
}

// Section Errors
func TestDivisionByZero(t *testing.T) {
	for _, a := range []string{"0", "1", strings.Repeat("9", 100)} {
		if q, r, e := DivMod(a, "0"); q != "" || r != "" || e != api.ErrZero {
			t.Errorf("%s / 0 is %q, %q, %d", a, q, r, e)
		}
	}
}

// Section Errors
func TestPowersOutOfRange(t *testing.T) {
	for _, n := range []int{-1, 65, -1 << 63, 1<<63 - 1, -64} {
		for _, a := range []string{"0", "1", "2"} {
			if p, e := Pow(a, n); p != "" || e != api.ErrRange {
				t.Errorf("%s ^ %d is %q, %d", a, n, p, e)
			}
		}
	}
}

// DOC P2, P3: calls at once, and in any order, return what calls alone return.
func TestCallsAtOnce(t *testing.T) {
	numbers := samples()
	alone := make([][]answer, len(numbers))
	for i, a := range numbers {
		alone[i] = append(ask(a, numbers[len(numbers)-1-i]), askOne(a)...)
	}
	var group sync.WaitGroup
	for range 4 {
		group.Go(func() {
			for i := len(numbers) - 1; i >= 0; i-- {
				again := append(ask(numbers[i], numbers[len(numbers)-1-i]), askOne(numbers[i])...)
				for k, got := range again {
					if got != alone[i][k] {
						t.Errorf("%s: %v and %v", numbers[i], got, alone[i][k])
					}
				}
			}
		})
	}
	group.Wait()
}
