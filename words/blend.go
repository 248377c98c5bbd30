package words

// blend replaces x by a x + b y, and y by c x + d y, neither of which may be negative; a, b, c and d are from -Base to Base.
func blend(x, y []uint64, a, b, c, d int64) ([]uint64, []uint64) {
	size := max(len(x), len(y))
	x, y = pad(x, size), pad(y, size)
	var forX, forY int64
	for i, word := range y {
		p, q := int64(x[i]), int64(word)
		x[i], forX = split(a*p + b*q + forX)
		y[i], forY = split(c*p + d*q + forY)
	}
	return Trim(appendCarry(x, forX)), Trim(appendCarry(y, forY))
}

func pad(x []uint64, size int) []uint64 {
	for len(x) < size {
		x = append(x, 0)
	}
	return x
}

// split divides a sum of two products and a carry into a word and what is carried on, which is negative for a negative sum.
func split(sum int64) (uint64, int64) {
	const shift = 3 * Base
	shifted := uint64(sum + shift*Base)
	return shifted % Base, int64(shifted/Base) - shift
}

func appendCarry(x []uint64, carry int64) []uint64 {
	for ; carry > 0; carry /= Base {
		x = append(x, uint64(carry%Base))
	}
	return x
}
