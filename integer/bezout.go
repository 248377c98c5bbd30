package integer

import (
	"garboard/api"
	"garboard/natural"
	"garboard/words"
)

// Bezout returns the greatest common divisor, and the x and the y of the linear combination that gives it.
func Bezout(a, b string) (string, string, string, api.Errno) {
	first, second, ok := readBoth(a, b)
	if !ok {
		return "", "", "", api.ErrArg
	}
	if second == zero {
		return first.size, From(first.sign), "0", api.OK
	}
	common, x := combine(first, second)
	rest := subtract(number{1, common}, multiply(first, x))
	y, _ := divide(rest, second)
	return common, x.String(), y.String(), api.OK
}

// combine returns the greatest common divisor, and x of the linear combination. Factors that differ by a multiple of the second number's share of the divisor combine to it as well; the remainder is the one that is meant.
func combine(first, second number) (string, number) {
	divisor, factor, isNegative := words.Combine(words.Read(first.size), words.Read(second.size))
	common := words.Write(divisor)
	share, _, _ := natural.DivMod(second.size, common)
	x := signed(first.sign, words.Write(factor))
	if isNegative {
		x = x.negative()
	}
	_, x = divide(x, number{1, share})
	return common, x
}
