package words

import "slices"

// Common returns the greatest common divisor of two numbers.
func Common(x, y []uint64) []uint64 {
	if isShort(x) && isShort(y) {
		common, _ := allSteps(short(x), short(y))
		return long(common)
	}
	e := euclid{first: slices.Clone(x), second: slices.Clone(y)}
	e.run()
	return e.first
}

// Combine returns the greatest common divisor of two numbers, the second one of which must not be 0, and a factor, less than the second one unless that is 1, and whether this factor is to be taken negatively: the first number times the factor is congruent to the divisor modulo the second number.
func Combine(x, y []uint64) (common, factor []uint64, negative bool) {
	if isShort(x) && isShort(y) {
		common, s := allSteps(short(x), short(y))
		return long(common), long(s.a), s.odd
	}
	e := euclid{first: slices.Clone(x), second: slices.Clone(y), firstFactor: []uint64{1}}
	e.run()
	return e.first, e.firstFactor, e.negative
}

// isShort reports whether the value of a number fits into 64 bits, whatever its words are.
func isShort(x []uint64) bool { return len(x) <= 2 }

func short(x []uint64) uint64 { return wordAt(x, 1)*Base + wordAt(x, 0) }

func long(n uint64) []uint64 { return Trim([]uint64{n % Base, n / Base}) }

// wordAt returns a word of a number, which is 0 outside of its list.
func wordAt(x []uint64, i int) uint64 {
	if i < 0 || i >= len(x) {
		return 0
	}
	return x[i]
}

// euclid is a state of Euclid's algorithm: two remainders, and the sizes of the factors with which the first number is congruent to them modulo the second one. The signs of the factors alternate; that of the first one is kept.
type euclid struct {
	first, second             []uint64
	firstFactor, secondFactor []uint64
	negative                  bool
}

// run goes on until the second remainder is 0. This is Lehmer's way: most steps are found from the highest digits of both remainders, and many of them are applied at once.
func (e *euclid) run() {
	if Less(e.first, e.second) {
		e.divide()
	}
	for len(e.second) > 0 {
		s := foresee(e.first, e.second)
		if s.b == 0 {
			e.divide()
		} else {
			e.apply(s)
		}
	}
}

// divide does one step.
func (e *euclid) divide() {
	quotient, rest := Divide(e.first, e.second)
	e.first, e.second = e.second, rest
	product := Multiply(quotient, e.secondFactor)
	sum, _ := blend(e.firstFactor, product, 1, 1, 0, 0)
	e.firstFactor, e.secondFactor = e.secondFactor, sum
	e.negative = !e.negative
}

// apply does several steps.
func (e *euclid) apply(s steps) {
	a, b, c, d := int64(s.a), int64(s.b), int64(s.c), int64(s.d)
	e.firstFactor, e.secondFactor = blend(e.firstFactor, e.secondFactor, a, b, c, d)
	if s.odd {
		a, b, c, d = -a, -b, -c, -d
	}
	e.first, e.second = blend(e.first, e.second, a, -b, -c, d)
	e.negative = e.negative != s.odd
}
