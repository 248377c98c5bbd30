package words

// steps are some steps of Euclid's algorithm together: x and y become a x - b y and d y - c x, or the opposites of these if the number of steps is odd.
type steps struct {
	a, b, c, d uint64
	odd        bool
}

func (s steps) with(quotient uint64) steps {
	return steps{a: s.c, b: s.d, c: s.a + quotient*s.c, d: s.b + quotient*s.d, odd: !s.odd}
}

// allSteps returns the greatest common divisor, and the steps that lead to it.
func allSteps(x, y uint64) (uint64, steps) {
	s := steps{a: 1, d: 1}
	for y > 0 {
		s = s.with(x / y)
		x, y = y, x%y
	}
	return x, s
}

// foresee returns steps for two numbers, the first of which is not less; none if one step has to be done alone.
func foresee(x, y []uint64) steps {
	if len(x) == 1 {
		_, s := allSteps(x[0], y[0])
		return s
	}
	scale := uint64(1)
	for x[len(x)-1]*scale*10 < Base {
		scale *= 10
	}
	return sureSteps(leading(x, len(x), scale), leading(y, len(x), scale))
}

// leading returns the highest 18 digits of a number of a length times a scale, which is a power of ten.
func leading(x []uint64, length int, scale uint64) uint64 {
	high, middle, low := wordAt(x, length-1), wordAt(x, length-2), wordAt(x, length-3)
	return (high*Base+middle)*scale + low*scale/Base
}

// sureSteps returns the steps that are the same for all numbers that begin with the digits of x and y (Collins's condition). Their numbers are less than Base, because d is at most y, and x d is not greater than what x was at first.
func sureSteps(x, y uint64) steps {
	next := steps{a: 1, d: 1}
	sure := next
	for y >= next.d && x-y >= next.b+next.d {
		sure = next
		next = next.with(x / y)
		x, y = y, x%y
	}
	return sure
}
