package root

import (
	"strings"

	"garboard/api"
)

// wholeRoot returns the greatest integer whose square is at most an integer that is not negative. It is Newton's way from above: the guesses decrease until they are right.
func wholeRoot(x api.Rat) api.Rat {
	if x == "0" {
		return x
	}
	guess := firstGuess(x)
	for {
		next := floor(times(plus(guess, floor(over(x, guess))), "1/2"))
		if order(next, guess) >= 0 {
			return guess
		}
		guess = next
	}
}

// firstGuess returns an integer that is greater than the root. The highest half of the digits has a root with the highest half of the digits of the whole one, so that few further guesses are needed.
func firstGuess(x api.Rat) api.Rat {
	dropped := len(x) / 4
	if dropped == 0 {
		return "32"
	}
	high := wholeRoot(x[:len(x)-2*dropped])
	return plus(high, "1") + api.Rat(strings.Repeat("0", dropped))
}
