package words

// rows is how many products of two words fit into 64 bits together, with a word and a carry.
const rows = 18

// Multiply returns the product of two numbers.
func Multiply(x, y []uint64) []uint64 {
	out := make([]uint64, len(x)+len(y))
	for i, word := range x {
		row := out[i : i+len(y)]
		for k, other := range y {
			row[k] += word * other
		}
		if i%rows == rows-1 {
			carryOn(out[i-rows+1:])
		}
	}
	carryOn(out)
	return Trim(out)
}

// carryOn makes words of sums. It is done once for many rows of products, because divisions are slow.
func carryOn(x []uint64) {
	var carry uint64
	for i, sum := range x {
		sum += carry
		carry = sum / Base
		x[i] = sum % Base
	}
}
