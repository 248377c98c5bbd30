package rational

import (
	"math/big"
	"strings"
	"testing"

	"garboard/api"
)

// P3.3
func TestFloor(t *testing.T) {
	for _, a := range samples() {
		x := toBig(t, a)
		want := new(big.Int).Div(x.Num(), x.Denom()).String()
		if whole, e := Floor(a); e != api.OK || whole != want {
			t.Errorf("the floor of %s is %s, %d", a, whole, e)
		}
	}
	for _, c := range [][2]string{{"7/2", "3"}, {"-7/2", "-4"}, {"1/3", "0"}, {"-1/3", "-1"}, {"-3", "-3"}, {"0", "0"}, {"-100000000000000000001/100000000000000000000", "-2"}} {
		if whole, e := Floor(api.Rat(c[0])); e != api.OK || whole != c[1] {
			t.Errorf("the floor of %s is %s, %d", c[0], whole, e)
		}
	}
}

// P3.3: the forms, and the halves, which go away from 0.
func TestDecimal(t *testing.T) {
	for _, c := range []struct {
		a    api.Rat
		n    int
		want string
	}{
		{"0", 0, "0"}, {"0", 3, "0.000"}, {"5", 0, "5"}, {"-5", 2, "-5.00"}, {"1/2", 0, "1"}, {"-1/2", 0, "-1"}, {"3/2", 0, "2"}, {"-3/2", 0, "-2"}, {"5/2", 0, "3"}, {"-5/2", 0, "-3"},
		{"1/3", 0, "0"}, {"-1/3", 0, "0"}, {"1/4", 1, "0.3"}, {"-1/4", 1, "-0.3"}, {"1/8", 2, "0.13"}, {"-1/8", 2, "-0.13"}, {"1/8", 3, "0.125"}, {"1/8", 4, "0.1250"},
		{"-1/1000", 2, "0.00"}, {"1/1000", 2, "0.00"}, {"-1/200", 2, "-0.01"}, {"1/200", 2, "0.01"}, {"-499/100000", 2, "0.00"}, {"1/100", 2, "0.01"}, {"99/100", 2, "0.99"}, {"999/1000", 2, "1.00"}, {"-1999/200", 2, "-10.00"},
		{"123456789/10000", 4, "12345.6789"}, {"2/3", 20, "0.66666666666666666667"}, {"1", 64, "1." + strings.Repeat("0", 64)}, {"1/3", 64, "0." + strings.Repeat("3", 64)}, {"-100000000000000000000000/3", 1, "-33333333333333333333333.3"},
	} {
		if text, e := Decimal(c.a, c.n); e != api.OK || text != c.want {
			t.Errorf("%s with %d places is %s, %d", c.a, c.n, text, e)
		}
	}
}

// P3.5: a decimal text is at most half a unit of its last place away, at a half the one farther from 0, and is read as its value.
func TestDecimalIsNearest(t *testing.T) {
	for _, a := range samples() {
		for _, n := range []int{0, 1, 2, 7, 64} {
			text, e := Decimal(a, n)
			if e != api.OK || !hasPlaces(text, n) {
				t.Errorf("%s with %d places is %s, %d", a, n, text, e)
				continue
			}
			read, e := Parse(text)
			if e != api.OK || toBig(t, read).Cmp(toBig(t, api.Rat(text))) != 0 {
				t.Errorf("%s is read as %s, %d", text, read, e)
			}
			half := new(big.Rat).SetFrac(big.NewInt(1), new(big.Int).Mul(big.NewInt(2), new(big.Int).Exp(big.NewInt(10), big.NewInt(int64(n)), nil)))
			away := new(big.Rat).Sub(toBig(t, read), toBig(t, a))
			isHalf := new(big.Rat).Abs(away).Cmp(half) == 0
			if new(big.Rat).Abs(away).Cmp(half) > 0 || isHalf && away.Sign() != toBig(t, a).Sign() {
				t.Errorf("%s with %d places is %s", a, n, text)
			}
		}
	}
}

// hasPlaces reports whether a text is a canonical integer with a point in front of its last n digits.
func hasPlaces(text string, n int) bool {
	size, isNegative := strings.CutPrefix(text, "-")
	whole, places, hasPoint := strings.Cut(size, ".")
	if isNegative && strings.Trim(whole+places, "0") == "" {
		return false
	}
	return hasPoint == (n > 0) && len(places) == n && whole != "" && (whole == "0" || whole[0] != '0')
}

// P3.3
func TestParse(t *testing.T) {
	for _, a := range samples() {
		if b, e := Parse(string(a)); e != api.OK || b != a {
			t.Errorf("%s is read as %s, %d", a, b, e)
		}
	}
	for text, want := range map[string]api.Rat{
		"0.5": "1/2", "-0.5": "-1/2", "0.250": "1/4", "12.0": "12", "-12.00": "-12", "0.0": "0", "-0.0": "0", "-000.000": "0", "00.5": "1/2", "-007.70": "-77/10", "1.000000000000000000000000001": "1000000000000000000000000001/1000000000000000000000000000",
		"123456789.987654321": "123456789987654321/1000000000", "0.333": "333/1000", "10.5": "21/2", "0." + strings.Repeat("0", 99) + "1": api.Rat("1/1" + strings.Repeat("0", 100)), "-00000000000000000000000000001.5": "-3/2",
	} {
		if a, e := Parse(text); e != api.OK || a != want {
			t.Errorf("%s is read as %s, %d", text, a, e)
		}
	}
}

// Section Errors
func TestTextsThatAreNoNumbers(t *testing.T) {
	texts := []string{".", "-.", ".5", "-.5", "5.", "-5.", "+0.5", "--0.5", "0.5.", "0..5", "0.5.5", "0,5", "0.5e1", " 0.5", "0.5 ", "0.-5", "0.+5", "1/2.0", "1.0/2", "0.5/1", "0x.8", "0.\xff", "\xff.0", "-", "0.٣", "1_0.5", "0.1_0"}
	for _, a := range none {
		if isDecimal := a == "1.0" || a == "0.5"; !isDecimal {
			texts = append(texts, string(a))
		}
	}
	for _, text := range texts {
		if a, e := Parse(text); a != "" || e != api.ErrSyntax {
			t.Errorf("%q is read as %q, %d", text, a, e)
		}
	}
}
