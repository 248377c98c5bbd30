// Package natural computes with natural numbers of any size, which are decimal strings.
package natural

import (
	"strconv"
	"strings"

	"garboard/api"
	"garboard/words"
)

// shortDigits is how many digits a number of 64 bits can have, whichever digits they are.
const shortDigits = 19

// Valid reports whether a string is a natural number.
func Valid(a string) bool {
	if a == "" || a[0] == '0' && len(a) > 1 {
		return false
	}
	for i := range len(a) {
		if a[i] < '0' || a[i] > '9' {
			return false
		}
	}
	return true
}

// Compare returns -1, 0 or 1 if the first number is less than, equal to or greater than the second one.
func Compare(a, b string) (int, api.Errno) {
	if !Valid(a) || !Valid(b) {
		return 0, api.ErrArg
	}
	return compare(a, b), api.OK
}

// compare relies on numbers having no zeros at their front: the longer one is greater.
func compare(a, b string) int {
	if len(a) < len(b) {
		return -1
	}
	if len(a) > len(b) {
		return 1
	}
	return strings.Compare(a, b)
}

// Add returns the sum.
func Add(a, b string) (string, api.Errno) {
	if !Valid(a) || !Valid(b) {
		return "", api.ErrArg
	}
	if max(len(a), len(b)) < shortDigits {
		return write(read(a) + read(b)), api.OK
	}
	return words.Write(add(words.Read(a), words.Read(b))), api.OK
}

// Sub returns the difference.
func Sub(a, b string) (string, api.Errno) {
	if !Valid(a) || !Valid(b) {
		return "", api.ErrArg
	}
	if compare(a, b) < 0 {
		return "", api.ErrRange
	}
	if len(a) <= shortDigits {
		return write(read(a) - read(b)), api.OK
	}
	return words.Write(subtract(words.Read(a), words.Read(b))), api.OK
}

// Mul returns the product.
func Mul(a, b string) (string, api.Errno) {
	if !Valid(a) || !Valid(b) {
		return "", api.ErrArg
	}
	if len(a)+len(b) <= shortDigits {
		return write(read(a) * read(b)), api.OK
	}
	return words.Write(words.Multiply(words.Read(a), words.Read(b))), api.OK
}

// DivMod returns the quotient and the remainder.
func DivMod(a, b string) (string, string, api.Errno) {
	if !Valid(a) || !Valid(b) {
		return "", "", api.ErrArg
	}
	if b == "0" {
		return "", "", api.ErrZero
	}
	if compare(a, b) < 0 {
		return "0", a, api.OK
	}
	if len(a) <= shortDigits {
		x, y := read(a), read(b)
		return write(x / y), write(x % y), api.OK
	}
	quotient, rest := words.Divide(words.Read(a), words.Read(b))
	return words.Write(quotient), words.Write(rest), api.OK
}

// GCD returns the greatest common divisor.
func GCD(a, b string) (string, api.Errno) {
	if !Valid(a) || !Valid(b) {
		return "", api.ErrArg
	}
	return words.Write(words.Common(words.Read(a), words.Read(b))), api.OK
}

func read(a string) uint64 {
	n, _ := strconv.ParseUint(a, 10, 64)
	return n
}

func write(n uint64) string { return strconv.FormatUint(n, 10) }
