package piecewise

import (
	"math/big"
	"slices"
	"testing"

	"garboard/api"
	"garboard/sturm"
)

// P10.4, P10.5: those of all pieces, within which all values are.
func TestExtremes(t *testing.T) {
	for _, l := range append(functions(14, 4), steps(api.MaxPieces)) {
		for _, k := range []int{0, 2, 11} {
			var ends [4][]*big.Rat
			for _, p := range l {
				low, high, e := sturm.Extremes(p.P, api.Interval{Lo: p.From, Hi: p.To}, k)
				if e != api.OK {
					t.Fatal(p, e)
				}
				for i, x := range [4]api.Rat{low.Lo, low.Hi, high.Lo, high.Hi} {
					ends[i] = append(ends[i], rat(x))
				}
			}
			for i := range ends {
				slices.SortFunc(ends[i], (*big.Rat).Cmp)
			}
			last := len(l) - 1
			wantLeast := api.Interval{Lo: text(ends[0][0]), Hi: text(ends[1][0])}
			wantGreatest := api.Interval{Lo: text(ends[2][last]), Hi: text(ends[3][last])}
			least, greatest, e := Extremes(l, k)
			if e != api.OK || least != wantLeast || greatest != wantGreatest {
				t.Errorf("the extremes of %v are %v, %v, %d", l, least, greatest, e)
				continue
			}
			for _, x := range asked(l) {
				if y := valueAt(l, x); y.Cmp(rat(least.Lo)) < 0 || y.Cmp(rat(greatest.Hi)) > 0 {
					t.Errorf("%v has the value %s, but the extremes %v and %v", l, text(y), least, greatest)
				}
			}
		}
	}
}

// P10.4: limits at jumps count from both sides; enclosures of different pieces are not joined.
func TestExtremesOfSmallOnes(t *testing.T) {
	exactly := func(x api.Rat) api.Interval { return api.Interval{Lo: x, Hi: x} }
	for _, c := range []struct {
		l               string
		k               int
		least, greatest api.Interval
	}{
		{"0; 1: 1", 0, exactly("1"), exactly("1")}, {"0; : 1; 5: 2; -5: 3", 24, exactly("-5"), exactly("5")}, {"0; 0 1: 1; : 2", 3, exactly("0"), exactly("1")}, {"0; : 1; 1 -1: 2", 3, exactly("-1"), exactly("0")}, {"0; 2: 1; 0 1: 3", 0, exactly("1"), exactly("3")},
		{"0; 0 -1 1: 2", 2, api.Interval{Lo: "-1/2", Hi: "0"}, exactly("2")}, {"0; 0 -1 1: 2; -1/4: 3", 2, api.Interval{Lo: "-1/2", Hi: "-1/4"}, exactly("2")}, {"-1; -1/4: 0; 0 -1 1: 2; -1/8: 3", 2, api.Interval{Lo: "-1/2", Hi: "-1/4"}, exactly("2")}, {"0; 0 1 -1: 2; 1/4: 3", 2, exactly("-2"), api.Interval{Lo: "1/4", Hi: "1/2"}}, {"-1; 1/4: 0; 0 1 -1: 2; 1/5: 3", 2, exactly("-2"), api.Interval{Lo: "1/4", Hi: "1/2"}},
	} {
		if least, greatest, e := Extremes(read(c.l), c.k); e != api.OK || least != c.least || greatest != c.greatest {
			t.Errorf("the extremes of %s with %d narrowings are %v, %v, %d", c.l, c.k, least, greatest, e)
		}
	}
}
