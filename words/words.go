// Package words computes with natural numbers as lists of words, the lowest one first. It is shared by the layers natural, integer and rational.
//
// A word is nine decimal digits, so that decimal strings are read and written in one pass, and the product of two words fits into 64 bits. No list has a word 0 at its end; zero is the empty list. Results share no memory with arguments.
package words

import "strconv"

// Digits is the number of decimal digits of a word.
const Digits = 9

// Base is the number of values of a word.
const Base = 1_000_000_000

// Read returns the number with a decimal text, which has to be one or more digits.
func Read(text string) []uint64 {
	out := make([]uint64, 0, (len(text)+Digits-1)/Digits)
	for end := len(text); end > 0; end -= Digits {
		out = append(out, value(text[max(0, end-Digits):end]))
	}
	return Trim(out)
}

func value(digits string) uint64 {
	var n uint64
	for i := range len(digits) {
		n = n*10 + uint64(digits[i]-'0')
	}
	return n
}

// Write returns the decimal text of a number.
func Write(x []uint64) string {
	if len(x) == 0 {
		return "0"
	}
	top := len(x) - 1
	out := strconv.AppendUint(make([]byte, 0, len(x)*Digits), x[top], 10)
	for i := top - 1; i >= 0; i-- {
		out = appendWord(out, x[i])
	}
	return string(out)
}

// appendWord writes all digits of a word, because zeros at its front count behind another word.
func appendWord(out []byte, word uint64) []byte {
	var text [Digits]byte
	for i := Digits - 1; i >= 0; i-- {
		text[i] = '0' + byte(word%10)
		word /= 10
	}
	return append(out, text[:]...)
}

// Trim returns a list without the words 0 at its end.
func Trim(x []uint64) []uint64 {
	for len(x) > 0 && x[len(x)-1] == 0 {
		x = x[:len(x)-1]
	}
	return x
}

// Less reports whether the first number is less than the second one.
func Less(x, y []uint64) bool {
	if len(x) != len(y) {
		return len(x) < len(y)
	}
	for i := len(x) - 1; i >= 0; i-- {
		if x[i] != y[i] {
			return x[i] < y[i]
		}
	}
	return false
}
