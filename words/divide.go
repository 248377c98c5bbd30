package words

import "slices"

// Divide returns the quotient and the remainder of two numbers, the second one of which must not be 0.
func Divide(x, y []uint64) ([]uint64, []uint64) {
	switch {
	case Less(x, y):
		return nil, slices.Clone(x)
	case len(y) == 1:
		quotient, rest := divideByWord(x, y[0])
		return quotient, Trim([]uint64{rest})
	}
	return divideLong(x, y)
}

func divideByWord(x []uint64, y uint64) ([]uint64, uint64) {
	out := make([]uint64, len(x))
	var rest uint64
	for i := len(x) - 1; i >= 0; i-- {
		part := rest*Base + x[i]
		out[i] = part / y
		rest = part % y
	}
	return Trim(out), rest
}

// divideLong is Knuth's algorithm D. Both numbers are scaled, so that the highest word of the second one is at least half of Base: then the words of the quotient can be guessed from the highest words alone.
func divideLong(x, y []uint64) ([]uint64, []uint64) {
	scale := Base / (y[len(y)-1] + 1)
	rest := make([]uint64, len(x)+1)
	copy(rest, Multiply(x, []uint64{scale}))
	divisor := Multiply(y, []uint64{scale})
	n := len(divisor)
	out := make([]uint64, len(x)-len(y)+1)
	for j := len(out) - 1; j >= 0; j-- {
		part := rest[j : j+n+1]
		guess := guessWord(part, divisor)
		if subtractTimes(part, divisor, guess) {
			addBack(part, divisor)
			guess--
		}
		out[j] = guess
	}
	rest, _ = divideByWord(Trim(rest), scale)
	return Trim(out), rest
}

// guessWord returns the quotient of a part, which has one word more than the divisor, or one more than the quotient.
func guessWord(part, divisor []uint64) uint64 {
	n := len(divisor)
	top := part[n]*Base + part[n-1]
	guess, rest := top/divisor[n-1], top%divisor[n-1]
	for guess >= Base || guess*divisor[n-2] > rest*Base+part[n-2] {
		guess--
		rest += divisor[n-1]
		if rest >= Base {
			break
		}
	}
	return guess
}

// subtractTimes subtracts a multiple of the divisor from a part, and reports whether this was too much.
func subtractTimes(part, divisor []uint64, times uint64) bool {
	var carry uint64
	for i, word := range divisor {
		product := times*word + carry
		carry = product / Base
		low := product % Base
		if part[i] < low {
			part[i] += Base
			carry++
		}
		part[i] -= low
	}
	top := len(divisor)
	tooMuch := part[top] < carry
	if tooMuch {
		part[top] += Base
	}
	part[top] -= carry
	return tooMuch
}

// addBack adds the divisor to a part from which it was subtracted once too often, so that the part has no word above the divisor.
func addBack(part, divisor []uint64) {
	var carry uint64
	for i, word := range divisor {
		sum := part[i] + word + carry
		part[i] = sum % Base
		carry = sum / Base
	}
	part[len(divisor)] = 0
}
