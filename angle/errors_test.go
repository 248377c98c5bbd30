package angle

import (
	"slices"
	"sync"
	"testing"

	"garboard/api"
)

// none are strings that are no numbers.
var none = []api.Rat{"", "-0", "2/4", "0.5", "01", "1/0", "1/1", "x", "\xff", "123456789012345678901234567890/246913578024691357802469135780"}

// outside are numbers that are no half tangents.
var outside = []api.Rat{"2", "-2", "1000000000001/1000000000000", "-1000000000001/1000000000000", "8/7", "-3/2", "123456789012345678901234567890", "-123456789012345678901234567890"}

// numbersOfTerms are some that no enclosure has.
var numbersOfTerms = []int{0, -1, 25, -1 << 63, 1<<63 - 1}

// answer is what a function returned.
type answer struct {
	Number api.Rat
	Of     api.Interval
	Error  api.Errno
}

func number(x api.Rat, e api.Errno) answer         { return answer{Number: x, Error: e} }
func enclosure(a api.Interval, e api.Errno) answer { return answer{Of: a, Error: e} }

// expect checks that there is nothing but an error.
func expect(t *testing.T, what any, e api.Errno, answers ...answer) {
	t.Helper()
	for i, got := range answers {
		if got != (answer{Error: e}) {
			t.Errorf("%v: answer %d is %v instead of the error %d", what, i, got, e)
		}
	}
}

// Section Errors, DOC P1: ErrArg comes first, and every other result is zero.
func TestNumbersThatAreNotValid(t *testing.T) {
	for _, x := range none {
		expect(t, x, api.ErrArg, number(Cosine(x)), number(Sine(x)), number(Sum(x, x)))
		for _, y := range []api.Rat{"0", "1", "-1", "2", "-7/3"} {
			expect(t, x, api.ErrArg, number(Sum(x, y)), number(Sum(y, x)))
		}
		for _, n := range []int{1, 24, 0, 25} {
			expect(t, x, api.ErrArg, enclosure(Arctangent(x, n)), enclosure(Degrees(x, n)), enclosure(Find(x, n, 4)), enclosure(Find(x, n, -1)), enclosure(Find(x, n, 25)))
		}
	}
}

// Section Errors: ErrRange comes ahead of ErrLimit.
func TestNumbersThatAreNoHalfTangents(t *testing.T) {
	for _, x := range outside {
		expect(t, x, api.ErrRange, number(Cosine(x)), number(Sine(x)), number(Sum(x, x)))
		for _, y := range []api.Rat{"0", "1", "-1", "1/2"} {
			expect(t, x, api.ErrRange, number(Sum(x, y)), number(Sum(y, x)))
		}
		for _, n := range []int{1, 24, 0} {
			expect(t, x, api.ErrRange, enclosure(Arctangent(x, n)), enclosure(Degrees(x, n)))
		}
	}
}

// Section Errors
func TestNumbersOfTermsOutOfRange(t *testing.T) {
	for _, n := range numbersOfTerms {
		expect(t, n, api.ErrRange, enclosure(Pi(n)))
		for _, x := range []api.Rat{"0", "1/3", "1", "-1"} {
			expect(t, n, api.ErrRange, enclosure(Arctangent(x, n)), enclosure(Degrees(x, n)), enclosure(Find(x, n, 4)), enclosure(Find(x, n, 0)))
		}
	}
}

// Section Errors
func TestFindOutOfRange(t *testing.T) {
	for _, d := range []api.Rat{"91", "-91", "90000000000001/1000000000000", "-90000000000001/1000000000000", "360", "-123456789012345678901234567890"} {
		expect(t, d, api.ErrRange, enclosure(Find(d, 5, 4)), enclosure(Find(d, 0, 4)), enclosure(Find(d, 5, 0)))
	}
	for _, k := range []int{-1, 25, -1 << 63, 1<<63 - 1} {
		expect(t, k, api.ErrRange, enclosure(Find("30", 5, k)), enclosure(Find("90", 24, k)), enclosure(Find("100", 24, k)))
	}
}

// askAll calls every function.
func askAll(s, t api.Rat) []answer {
	return []answer{number(Cosine(s)), number(Sine(s)), number(Sum(s, t)), enclosure(Pi(3)), enclosure(Arctangent(s, 3)), enclosure(Degrees(s, 3)), enclosure(Find(s, 3, 3))}
}

// DOC P2, P3: calls at once, and in any order, return what calls alone return.
func TestCallsAtOnce(t *testing.T) {
	numbers := tangents()
	alone := make([][]answer, len(numbers))
	for i, x := range numbers {
		alone[i] = askAll(text(x), text(numbers[i/2]))
	}
	var group sync.WaitGroup
	for range 4 {
		group.Go(func() {
			for i := len(numbers) - 1; i >= 0; i-- {
				if again := askAll(text(numbers[i]), text(numbers[i/2])); !slices.Equal(again, alone[i]) {
					t.Errorf("%s: %v and %v", text(numbers[i]), again, alone[i])
				}
			}
		})
	}
	group.Wait()
}
