package rational

import "garboard/api"

// operation computes with small numbers, and with all of them.
type operation struct {
	small func(x, y small) small
	any   func(x, y fraction) fraction
}

// Add returns the sum.
func Add(a, b api.Rat) (api.Rat, api.Errno) { return operate(a, '+', b) }

// Sub returns the difference.
func Sub(a, b api.Rat) (api.Rat, api.Errno) { return operate(a, '-', b) }

// Mul returns the product.
func Mul(a, b api.Rat) (api.Rat, api.Errno) { return operate(a, '*', b) }

// Div returns the quotient.
func Div(a, b api.Rat) (api.Rat, api.Errno) {
	if b == "0" && Valid(a) {
		return "", api.ErrZero
	}
	return operate(a, '/', b)
}

func operate(a api.Rat, sign byte, b api.Rat) (api.Rat, api.Errno) {
	x, y, ok := readBoth(a, b)
	if !ok {
		return "", api.ErrArg
	}
	operations := map[byte]operation{
		'+': {addSmall, add},
		'-': {subtractSmall, subtract},
		'*': {multiplySmall, multiply},
		'/': {divideSmall, divide},
	}
	chosen := operations[sign]
	if s, t, ok := smallBoth(x, y); ok {
		return chosen.small(s, t).write(), api.OK
	}
	return chosen.any(x, y).write(), api.OK
}

// add looks for common divisors among the denominators alone: the sum over their least common multiple has no others.
func add(x, y fraction) fraction {
	shared := common(x.den, y.den)
	more := quotient(y.den, shared)
	num := plus(times(x.num, more), times(y.num, quotient(x.den, shared)))
	rest := common(num, shared)
	return fraction{quotient(num, rest), times(quotient(x.den, rest), more)}
}

func subtract(x, y fraction) fraction { return add(x, y.negative()) }

// multiply reduces crosswise, where alone there can be common divisors, before numbers become long.
func multiply(x, y fraction) fraction {
	first, second := common(x.num, y.den), common(y.num, x.den)
	num := times(quotient(x.num, first), quotient(y.num, second))
	return fraction{num, times(quotient(x.den, second), quotient(y.den, first))}
}

func divide(x, y fraction) fraction { return multiply(x, y.inverse()) }
