package rational

import (
	"cmp"
	"strconv"

	"garboard/api"
)

// smallDigits is how long the parts of small numbers are at most, so that sums of two products of them fit into 64 bits.
const smallDigits = 9

// shortDigits is how long an integer may be to fit into 64 bits, whichever digits it has.
const shortDigits = 18

// small is a quotient of two integers, which need not be in lowest terms. Most numbers are small, and computing with them is much faster than with strings.
type small struct{ num, den int64 }

// smallBoth returns two numbers if both are small.
func smallBoth(x, y fraction) (small, small, bool) {
	if max(len(x.num), len(x.den), len(y.num), len(y.den)) > smallDigits {
		return small{}, small{}, false
	}
	return small{parse(x.num), parse(x.den)}, small{parse(y.num), parse(y.den)}, true
}

// write needs a denominator that is not 0.
func (x small) write() api.Rat {
	num, den := x.num, x.den
	if den < 0 {
		num, den = -num, -den
	}
	shared := commonShort(num, den)
	if den == shared {
		return api.Rat(strconv.FormatInt(num/shared, 10))
	}
	return api.Rat(strconv.FormatInt(num/shared, 10) + "/" + strconv.FormatInt(den/shared, 10))
}

func addSmall(x, y small) small { return small{x.num*y.den + y.num*x.den, x.den * y.den} }

func subtractSmall(x, y small) small { return small{x.num*y.den - y.num*x.den, x.den * y.den} }

func multiplySmall(x, y small) small { return small{x.num * y.num, x.den * y.den} }

func divideSmall(x, y small) small { return small{x.num * y.den, x.den * y.num} }

func compareSmall(x, y small) int { return cmp.Compare(x.num*y.den, y.num*x.den) }

func isShort(a string) bool { return len(a) <= shortDigits }

func parse(a string) int64 {
	n, _ := strconv.ParseInt(a, 10, 64)
	return n
}

// commonShort returns the greatest common divisor.
func commonShort(a, b int64) int64 {
	a, b = max(a, -a), max(b, -b)
	for b > 0 {
		a, b = b, a%b
	}
	return a
}
