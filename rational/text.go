package rational

import (
	"strings"

	"garboard/api"
	"garboard/integer"
)

// Decimal returns the decimal text with n places.
func Decimal(a api.Rat, n int) (string, api.Errno) {
	x, ok := read(a)
	if !ok {
		return "", api.ErrArg
	}
	if n < 0 || n > api.MaxTerms {
		return "", api.ErrRange
	}
	return placePoint(nearest(times(x.num, powerOfTen(n)), x.den), n), api.OK
}

func powerOfTen(n int) string { return "1" + strings.Repeat("0", n) }

// nearest returns the integer nearest to a quotient; of two that are equally near it is the one farther from 0.
func nearest(num, den string) string {
	size, _ := integer.Abs(num)
	rounded, _, _ := integer.DivMod(plus(times(size, "2"), den), times(den, "2"))
	if sign(num) < 0 {
		return negative(rounded)
	}
	return rounded
}

// placePoint writes an integer with a point in front of its last n digits.
func placePoint(whole string, n int) string {
	if n == 0 {
		return whole
	}
	digits, isNegative := strings.CutPrefix(whole, "-")
	digits = strings.Repeat("0", max(0, n+1-len(digits))) + digits
	text := digits[:len(digits)-n] + "." + digits[len(digits)-n:]
	if isNegative {
		return "-" + text
	}
	return text
}

// Parse returns the number with a text.
func Parse(text string) (api.Rat, api.Errno) {
	if Valid(api.Rat(text)) {
		return api.Rat(text), api.OK
	}
	size, isNegative := strings.CutPrefix(text, "-")
	whole, places, hasPoint := strings.Cut(size, ".")
	if !hasPoint || !areDigits(whole) || !areDigits(places) {
		return "", api.ErrSyntax
	}
	digits := strings.TrimLeft(whole+places, "0")
	if digits == "" {
		return "0", api.OK
	}
	if isNegative {
		digits = "-" + digits
	}
	return Make(digits, powerOfTen(len(places)))
}

// areDigits reports whether a text is one or more digits.
func areDigits(text string) bool {
	return text != "" && strings.Trim(text, "0123456789") == ""
}
