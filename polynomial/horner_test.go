package polynomial

import (
	"math/big"
	"math/rand"
	"slices"
	"testing"

	"garboard/api"
)

// ranges returns intervals of all signs, that of one number and that of 0 alone among them.
func ranges(source *rand.Rand) [][2]*big.Rat {
	var out [][2]*big.Rat
	for _, a := range some(source) {
		for _, b := range some(source) {
			if a.Cmp(b) <= 0 {
				out = append(out, [2]*big.Rat{a, b})
			}
		}
	}
	return out
}

// enclosed returns the enclosure as it is defined.
func enclosed(p []*big.Rat, in [2]*big.Rat) api.Interval {
	lo, hi := new(big.Rat), new(big.Rat)
	for i := len(p) - 1; i >= 0; i-- {
		var ends []*big.Rat
		for _, x := range in {
			ends = append(ends, new(big.Rat).Mul(lo, x), new(big.Rat).Mul(hi, x))
		}
		slices.SortFunc(ends, (*big.Rat).Cmp)
		lo, hi = new(big.Rat).Add(ends[0], p[i]), new(big.Rat).Add(ends[3], p[i])
	}
	return api.Interval{Lo: text(lo), Hi: text(hi)}
}

// P8.4
func TestEnclose(t *testing.T) {
	source := rand.New(rand.NewSource(13))
	for _, p := range polynomials(source, api.MaxDegree) {
		for _, in := range ranges(source) {
			a := api.Interval{Lo: text(in[0]), Hi: text(in[1])}
			if got, e := Enclose(texts(p), a); e != api.OK || got != enclosed(p, in) {
				t.Errorf("the enclosure of %v on %v is %v, %d", texts(p), a, got, e)
			}
		}
	}
	for _, c := range []struct {
		p     string
		a, of api.Interval
	}{
		{"", api.Interval{Lo: "-1", Hi: "2"}, api.Interval{Lo: "0", Hi: "0"}}, {"", api.Interval{Lo: "5", Hi: "5"}, api.Interval{Lo: "0", Hi: "0"}}, {"-7/2", api.Interval{Lo: "-1", Hi: "2"}, api.Interval{Lo: "-7/2", Hi: "-7/2"}},
		{"0 0 1", api.Interval{Lo: "-1", Hi: "2"}, api.Interval{Lo: "-2", Hi: "4"}}, {"1 1", api.Interval{Lo: "-1", Hi: "2"}, api.Interval{Lo: "0", Hi: "3"}}, {"1 -1", api.Interval{Lo: "-1", Hi: "2"}, api.Interval{Lo: "-1", Hi: "2"}}, {"0 -1 1", api.Interval{Lo: "1/2", Hi: "1/2"}, api.Interval{Lo: "-1/4", Hi: "-1/4"}}, {"1 2 3", api.Interval{Lo: "0", Hi: "0"}, api.Interval{Lo: "1", Hi: "1"}},
	} {
		if got, e := Enclose(read(c.p), c.a); e != api.OK || got != c.of {
			t.Errorf("the enclosure of %s on %v is %v, %d", c.p, c.a, got, e)
		}
	}
}

// P8.5
func TestEnclosuresHaveAllValues(t *testing.T) {
	source := rand.New(rand.NewSource(14))
	for _, p := range polynomials(source, api.MaxDegree) {
		for _, in := range ranges(source)[:20] {
			got, _ := Enclose(texts(p), api.Interval{Lo: text(in[0]), Hi: text(in[1])})
			for _, part := range []*big.Rat{new(big.Rat), big.NewRat(1, 5), big.NewRat(1, 2), big.NewRat(8, 9), big.NewRat(1, 1)} {
				x := new(big.Rat).Sub(in[1], in[0])
				y := value(p, x.Add(in[0], x.Mul(x, part)))
				if y.Cmp(rat(got.Lo)) < 0 || y.Cmp(rat(got.Hi)) > 0 {
					t.Errorf("the enclosure of %v from %s to %s is %v, without %s", texts(p), text(in[0]), text(in[1]), got, text(y))
				}
			}
		}
	}
}
