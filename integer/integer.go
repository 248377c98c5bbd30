// Package integer computes with integers of any size, which are decimal strings.
package integer

import (
	"cmp"
	"strconv"
	"strings"

	"garboard/api"
	"garboard/natural"
)

// number is an integer: its sign (-1, 0 or 1) and its absolute value. Equal integers are equal structs.
type number struct {
	sign int
	size string
}

var zero = number{0, "0"}

// signed returns the number with a sign, which does not matter for 0, and a size.
func signed(sign int, size string) number {
	if size == "0" {
		return zero
	}
	return number{sign, size}
}

func (x number) negative() number { return number{-x.sign, x.size} }

func (x number) String() string {
	if x.sign < 0 {
		return "-" + x.size
	}
	return x.size
}

// read reads an integer, and reports whether it is one.
func read(a string) (number, bool) {
	size, isNegative := strings.CutPrefix(a, "-")
	if !natural.Valid(size) || isNegative && size == "0" {
		return number{}, false
	}
	if isNegative {
		return number{-1, size}, true
	}
	return signed(1, size), true
}

func readBoth(a, b string) (number, number, bool) {
	x, isFirst := read(a)
	y, isSecond := read(b)
	return x, y, isFirst && isSecond
}

// Valid reports whether a string is an integer.
func Valid(a string) bool {
	_, ok := read(a)
	return ok
}

// From returns the text of an int.
func From(n int) string { return strconv.Itoa(n) }

// Sign returns the sign: -1, 0 or 1.
func Sign(a string) (int, api.Errno) {
	x, ok := read(a)
	if !ok {
		return 0, api.ErrArg
	}
	return x.sign, api.OK
}

// Abs returns the absolute value.
func Abs(a string) (string, api.Errno) {
	x, ok := read(a)
	if !ok {
		return "", api.ErrArg
	}
	return x.size, api.OK
}

// Neg returns the number with the opposite sign.
func Neg(a string) (string, api.Errno) {
	x, ok := read(a)
	if !ok {
		return "", api.ErrArg
	}
	return x.negative().String(), api.OK
}

// Compare returns -1, 0 or 1 if the first number is less than, equal to or greater than the second one.
func Compare(a, b string) (int, api.Errno) {
	x, y, ok := readBoth(a, b)
	if !ok {
		return 0, api.ErrArg
	}
	return compare(x, y), api.OK
}

func compare(x, y number) int {
	if x == y {
		return 0
	}
	if x.sign != y.sign {
		return cmp.Compare(x.sign, y.sign)
	}
	order, _ := natural.Compare(x.size, y.size)
	return order * x.sign
}
