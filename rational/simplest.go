package rational

import (
	"garboard/api"
	"garboard/integer"
)

// Simplest returns the simplest number from a to b.
func Simplest(a, b api.Rat) (api.Rat, api.Errno) {
	x, y, ok := readBoth(a, b)
	if !ok {
		return "", api.ErrArg
	}
	if compare(x, y) > 0 {
		return "", api.ErrOrder
	}
	switch {
	case sign(y.num) < 0:
		return simplest(y.negative(), x.negative()).negative().write(), api.OK
	case sign(x.num) <= 0:
		return "0", api.OK
	}
	return simplest(x, y).write(), api.OK
}

// simplest needs positive numbers. If there is an integer between both, the least one is it; otherwise it is their common whole part and the inverse of the simplest number between the inverses of what remains. So it is a continued fraction, whose value is found from its first terms on: last is the value so far, before the one without the last term.
func simplest(low, high fraction) fraction {
	before, last := fraction{"0", "1"}, fraction{"1", "0"}
	for {
		whole, rest, _ := integer.DivMod(low.num, low.den)
		highest, highRest, _ := integer.DivMod(high.num, high.den)
		isEnd := rest == "0" || whole != highest
		if isEnd && rest != "0" {
			whole = plus(whole, "1")
		}
		before, last = last, fraction{
			plus(times(whole, last.num), before.num),
			plus(times(whole, last.den), before.den),
		}
		if isEnd {
			return last
		}
		low, high = fraction{high.den, highRest}, fraction{low.den, rest}
	}
}
