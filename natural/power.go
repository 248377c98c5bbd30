package natural

import (
	"math/bits"

	"garboard/api"
	"garboard/words"
)

// Pow returns the power a^n.
func Pow(a string, n int) (string, api.Errno) {
	if !Valid(a) {
		return "", api.ErrArg
	}
	if n < 0 || n > api.MaxTerms {
		return "", api.ErrRange
	}
	return words.Write(power(words.Read(a), n)), api.OK
}

func power(x []uint64, n int) []uint64 {
	if n == 0 {
		return []uint64{1}
	}
	half := power(x, n/2)
	square := words.Multiply(half, half)
	if n%2 == 0 {
		return square
	}
	return words.Multiply(square, x)
}

// Root returns the greatest number whose square is at most a number.
func Root(a string) (string, api.Errno) {
	if !Valid(a) {
		return "", api.ErrArg
	}
	return words.Write(root(words.Read(a))), api.OK
}

// root is Newton's way from above: the guesses decrease until they are right.
func root(x []uint64) []uint64 {
	if len(x) == 0 {
		return nil
	}
	guess := firstGuess(x)
	for {
		quotient, _ := words.Divide(x, guess)
		next, _ := words.Divide(add(guess, quotient), []uint64{2})
		if !words.Less(next, guess) {
			return guess
		}
		guess = next
	}
}

// firstGuess returns a number that is not less than the root. The root of the highest words has half of the digits of the whole one, so that few further guesses are needed.
func firstGuess(x []uint64) []uint64 {
	if len(x) == 1 {
		return []uint64{powerOfTwo(x[0])}
	}
	if len(x) == 2 {
		return []uint64{min(powerOfTwo(x[1]*words.Base+x[0]), words.Base-1)}
	}
	dropped := max(1, len(x)/4)
	high := root(x[2*dropped:])
	return append(make([]uint64, dropped), add(high, []uint64{1})...)
}

// powerOfTwo returns one that is not less than the root of a number.
func powerOfTwo(n uint64) uint64 { return 1 << ((bits.Len64(n) + 1) / 2) }
