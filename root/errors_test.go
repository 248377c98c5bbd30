package root

import (
	"slices"
	"sync"
	"testing"

	"garboard/api"
)

// none are strings that are no numbers.
var none = []api.Rat{"", "-0", "2/4", "1.5", "01", "1/0", "4/1", "x", "\xff", "123456789012345678901234567890/246913578024691357802469135780"}

// answer is what a function returned.
type answer struct {
	Number api.Rat
	Is     bool
	Of     api.Interval
	Sign   int
	Error  api.Errno
}

func exact(x api.Rat) answer {
	found, is, e := Exact(x)
	return answer{Number: found, Is: is, Error: e}
}

func sqrt(x api.Rat, n int) answer {
	a, e := Sqrt(x, n)
	return answer{Of: a, Error: e}
}

func of(lo, hi api.Rat, n int) answer {
	a, e := Of(api.Interval{Lo: lo, Hi: hi}, n)
	return answer{Of: a, Error: e}
}

func signed(a, b, c api.Rat) answer {
	s, e := Sign(a, b, c)
	return answer{Sign: s, Error: e}
}

func compared(a, b, c, d api.Rat) answer {
	s, e := Compare(a, b, c, d)
	return answer{Sign: s, Error: e}
}

func norm(n int, l ...api.Rat) answer {
	a, e := Norm(l, n)
	return answer{Of: a, Error: e}
}

// expect checks that there is nothing but an error.
func expect(t *testing.T, what any, e api.Errno, answers ...answer) {
	t.Helper()
	for i, got := range answers {
		if got != (answer{Error: e}) {
			t.Errorf("%v: answer %d is %v instead of the error %d", what, i, got, e)
		}
	}
}

// Section Errors, DOC P1: ErrArg comes ahead of ErrRange, and every other result is zero.
func TestNumbersThatAreNotValid(t *testing.T) {
	for _, x := range none {
		for _, n := range []int{10, 0} {
			expect(t, x, api.ErrArg, exact(x), sqrt(x, n), of(x, x, n), of("0", x, n), of(x, "1", n), of("-1", x, n), norm(n, x), norm(n, "1", "2", x), norm(n, x, "1"))
		}
		for _, c := range []api.Rat{"2", "0", "-2"} {
			expect(t, x, api.ErrArg, signed(x, "1", c), signed("1", x, c), signed(c, "0", x), signed(x, x, x))
			expect(t, x, api.ErrArg, compared(x, "1", "1", c), compared("1", x, "1", c), compared("1", c, x, "1"), compared("1", c, "1", x))
		}
	}
	for _, n := range []int{10, 0} {
		expect(t, n, api.ErrArg, of("2", "1", n), of("-1", "-2", n), of("1/2", "1/3", n))
	}
}

// Section Errors: also where the root is not needed.
func TestRootsOfNegativeNumbers(t *testing.T) {
	for _, x := range []api.Rat{"-1", "-4", "-1/4", "-1/1000000000000000000000", "-123456789012345678901234567890"} {
		expect(t, x, api.ErrRange, exact(x), sqrt(x, 10), of(x, "1", 10), of(x, x, 10), of(x, "0", 10))
		expect(t, x, api.ErrRange, signed("1", "1", x), signed("1", "0", x), signed("0", "0", x))
		expect(t, x, api.ErrRange, compared("1", x, "1", "1"), compared("1", "1", "1", x), compared("0", x, "0", x), compared("1", x, "1", x), compared("0", "1", "0", x))
	}
}

// Section Errors
func TestDenominatorsOutOfRange(t *testing.T) {
	for _, n := range []int{0, -1, 1000000001, -1 << 63, 1<<63 - 1} {
		for _, x := range []api.Rat{"0", "2", "4", "-4"} {
			expect(t, n, api.ErrRange, sqrt(x, n), of(x, "5", n))
		}
		expect(t, n, api.ErrRange, norm(n), norm(n, "3", "4"))
	}
}

// Section Errors: the size of a list comes first.
func TestNormOfTooMany(t *testing.T) {
	for _, x := range []api.Rat{"1", "x"} {
		for _, n := range []int{10, 0} {
			expect(t, n, api.ErrTooLarge, norm(n, slices.Repeat([]api.Rat{x}, api.MaxTerms+1)...))
		}
	}
	expect(t, "the last one", api.ErrArg, norm(0, append(slices.Repeat([]api.Rat{"1"}, api.MaxTerms-1), "x")...))
}

// askAll calls every function.
func askAll(x, y api.Rat) []answer {
	return []answer{exact(x), sqrt(x, 10), of(x, y, 1000), signed(x, y, x), signed("-1/3", y, x), compared(x, y, y, x), norm(7, x, y)}
}

// DOC P2, P3: calls at once, and in any order, return what calls alone return.
func TestCallsAtOnce(t *testing.T) {
	numbers := squares()
	alone := make([][]answer, len(numbers))
	for i, x := range numbers {
		alone[i] = askAll(text(x), text(numbers[len(numbers)-1-i]))
	}
	var group sync.WaitGroup
	for range 4 {
		group.Go(func() {
			for i := len(numbers) - 1; i >= 0; i-- {
				if again := askAll(text(numbers[i]), text(numbers[len(numbers)-1-i])); !slices.Equal(again, alone[i]) {
					t.Errorf("%s: %v and %v", text(numbers[i]), again, alone[i])
				}
			}
		})
	}
	group.Wait()
}
