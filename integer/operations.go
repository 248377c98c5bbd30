package integer

import (
	"garboard/api"
	"garboard/natural"
)

// Add returns the sum.
func Add(a, b string) (string, api.Errno) { return operate(a, b, add) }

// Sub returns the difference.
func Sub(a, b string) (string, api.Errno) { return operate(a, b, subtract) }

// Mul returns the product.
func Mul(a, b string) (string, api.Errno) { return operate(a, b, multiply) }

func operate(a, b string, operation func(x, y number) number) (string, api.Errno) {
	x, y, ok := readBoth(a, b)
	if !ok {
		return "", api.ErrArg
	}
	return operation(x, y).String(), api.OK
}

// DivMod returns the quotient and the remainder, which is never negative.
func DivMod(a, b string) (string, string, api.Errno) {
	x, y, ok := readBoth(a, b)
	if !ok {
		return "", "", api.ErrArg
	}
	if y == zero {
		return "", "", api.ErrZero
	}
	quotient, rest := divide(x, y)
	return quotient.String(), rest.String(), api.OK
}

// add chooses by the product of the signs.
func add(x, y number) number {
	ways := [3]func(x, y number) number{addOpposite, addZero, addAlike}
	return ways[x.sign*y.sign+1](x, y)
}

func addOpposite(x, y number) number {
	if x == y.negative() {
		return zero
	}
	if order, _ := natural.Compare(x.size, y.size); order < 0 {
		x, y = y, x
	}
	size, _ := natural.Sub(x.size, y.size)
	return number{x.sign, size}
}

func addZero(x, y number) number {
	if x == zero {
		return y
	}
	return x
}

func addAlike(x, y number) number {
	size, _ := natural.Add(x.size, y.size)
	return number{x.sign, size}
}

func subtract(x, y number) number { return add(x, y.negative()) }

func multiply(x, y number) number {
	size, _ := natural.Mul(x.size, y.size)
	return number{x.sign * y.sign, size}
}

// divide chooses by the sign of the first number.
func divide(x, y number) (number, number) {
	ways := [3]func(x, y number) (number, number){divideNegative, divideZero, dividePositive}
	return ways[x.sign+1](x, y)
}

func dividePositive(x, y number) (number, number) {
	quotient, rest, _ := natural.DivMod(x.size, y.size)
	return signed(y.sign, quotient), signed(1, rest)
}

func divideZero(number, number) (number, number) { return zero, zero }

// divideNegative takes one more from a number that is not divisible than its size contains, so that the remainder is not negative.
func divideNegative(x, y number) (number, number) {
	quotient, rest := dividePositive(x.negative(), y)
	if rest == zero {
		return quotient.negative(), zero
	}
	return add(quotient, number{y.sign, "1"}).negative(), add(number{1, y.size}, rest.negative())
}
