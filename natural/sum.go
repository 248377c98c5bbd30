package natural

import "garboard/words"

// word is a type of words: it has room for the sum of two words and a carry.
type word interface{ ~uint32 | ~uint64 }

// join applies a step to each word of a number and the word at the same place of a number that is not longer, from the lowest words on.
func join[W word](long, short []W, step func(x, y W) W) []W {
	out := make([]W, len(long), len(long)+1)
	for i, x := range long {
		var y W
		if i < len(short) {
			y = short[i]
		}
		out[i] = step(x, y)
	}
	return out
}

// carrier keeps what is carried from one word to the next one.
type carrier struct{ carry uint64 }

func (c *carrier) plus(x, y uint64) uint64 {
	sum := x + y + c.carry
	if sum < words.Base {
		c.carry = 0
		return sum
	}
	c.carry = 1
	return sum - words.Base
}

func (c *carrier) minus(x, y uint64) uint64 {
	taken := y + c.carry
	if x >= taken {
		c.carry = 0
		return x - taken
	}
	c.carry = 1
	return x + words.Base - taken
}

func add(x, y []uint64) []uint64 {
	if len(x) < len(y) {
		x, y = y, x
	}
	var c carrier
	// The carry is read in a statement of its own: Go leaves open whether it would be read before a call in the same one.
	sum := join(x, y, c.plus)
	return words.Trim(append(sum, c.carry))
}

// subtract needs a first number that is not less than the second one.
func subtract(x, y []uint64) []uint64 {
	var c carrier
	return words.Trim(join(x, y, c.minus))
}
