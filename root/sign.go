package root

import (
	"garboard/api"
	"garboard/rational"
)

// open says that the signs of two terms do not decide that of their sum.
const open = 2

// settled has the sign of a sum at the signs of its terms, both plus 1.
var settled = [3][3]int{
	{-1, -1, open},
	{-1, 0, 1},
	{open, 1, 1},
}

// term is a factor times the root of a number.
type term struct{ factor, under api.Rat }

func (t term) sign() int { return sign(t.factor) * sign(t.under) }

func (t term) square() api.Rat { return times(times(t.factor, t.factor), t.under) }

// Sign returns the sign of a + b times the root of c.
func Sign(a, b, c api.Rat) (int, api.Errno) {
	return signOfSum(term{a, "1"}, term{b, c})
}

// Compare returns the sign of a times the root of b minus c times the root of d.
func Compare(a, b, c, d api.Rat) (int, api.Errno) {
	opposite, e := rational.Sub("0", c)
	if e != api.OK {
		return 0, e
	}
	return signOfSum(term{a, b}, term{opposite, d})
}

// signOfSum lets the greater one of two squares decide if the signs of the terms do not.
func signOfSum(x, y term) (int, api.Errno) {
	for _, number := range []api.Rat{x.factor, x.under, y.factor, y.under} {
		if !rational.Valid(number) {
			return 0, api.ErrArg
		}
	}
	if sign(x.under) < 0 || sign(y.under) < 0 {
		return 0, api.ErrRange
	}
	s := settled[x.sign()+1][y.sign()+1]
	if s != open {
		return s, api.OK
	}
	return x.sign() * order(x.square(), y.square()), api.OK
}
