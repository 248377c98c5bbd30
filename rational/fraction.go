package rational

import (
	"strings"

	"garboard/api"
	"garboard/integer"
	"garboard/words"
)

// fraction is a number in lowest terms; the denominator is positive. Both parts are integers as decimal strings.
type fraction struct{ num, den string }

// read reads a number, and reports whether it is valid.
func read(a api.Rat) (fraction, bool) {
	num, den, isQuotient := strings.Cut(string(a), "/")
	if !isQuotient {
		return fraction{num, "1"}, integer.Valid(num)
	}
	if !integer.Valid(num) || !integer.Valid(den) || den == "1" || sign(den) < 1 {
		return fraction{}, false
	}
	return fraction{num, den}, areCoprime(num, den)
}

func readBoth(a, b api.Rat) (fraction, fraction, bool) {
	x, isFirst := read(a)
	y, isSecond := read(b)
	return x, y, isFirst && isSecond
}

func (x fraction) write() api.Rat {
	if x.den == "1" {
		return api.Rat(x.num)
	}
	return api.Rat(x.num + "/" + x.den)
}

// reduce returns the quotient of two integers, the second one of which must not be 0.
func reduce(num, den string) fraction {
	if sign(den) < 0 {
		num, den = negative(num), negative(den)
	}
	shared := common(num, den)
	return fraction{quotient(num, shared), quotient(den, shared)}
}

func (x fraction) negative() fraction { return fraction{negative(x.num), x.den} }

// inverse needs a number that is not 0.
func (x fraction) inverse() fraction {
	if sign(x.num) < 0 {
		return fraction{negative(x.den), negative(x.num)}
	}
	return fraction{x.den, x.num}
}

// areCoprime reports whether two integers have no common divisor but 1.
func areCoprime(a, b string) bool {
	if isShort(a) && isShort(b) {
		return commonShort(parse(a), parse(b)) == 1
	}
	return common(a, b) == "1"
}

// common returns the greatest common divisor of two integers. It does not ask integer.Bezout, which would have to find the factors of a linear combination, too: every call of every function needs the divisors of its arguments, to know whether they are valid.
func common(a, b string) string {
	if a == "1" || b == "1" {
		return "1"
	}
	return words.Write(words.Common(readSize(a), readSize(b)))
}

func readSize(a string) []uint64 { return words.Read(strings.TrimPrefix(a, "-")) }

// The following functions need integers, so that there are no errors.

func sign(a string) int {
	s, _ := integer.Sign(a)
	return s
}

func negative(a string) string {
	opposite, _ := integer.Neg(a)
	return opposite
}

func order(a, b string) int {
	o, _ := integer.Compare(a, b)
	return o
}

func plus(a, b string) string {
	sum, _ := integer.Add(a, b)
	return sum
}

func times(a, b string) string {
	product, _ := integer.Mul(a, b)
	return product
}

// quotient divides by a divisor.
func quotient(a, divisor string) string {
	if divisor == "1" {
		return a
	}
	q, _, _ := integer.DivMod(a, divisor)
	return q
}
