package piecewise

import (
	"math/big"
	"slices"
	"strings"
	"testing"

	"garboard/api"
)

// P10.3, P10.5: the cumulated function is continuous, and its slope is the function.
func TestCumulate(t *testing.T) {
	for _, l := range append(functions(9, 5), functions(10, api.MaxDegree-1)...) {
		for _, x := range []api.Rat{"0", "1", "-7/3", "123456789012345678901/1000000007"} {
			got, e := Cumulate(l, x)
			if e != api.OK || Check(got) != api.OK || len(got) != len(l) {
				t.Errorf("%v cumulated with %s is %v, %d", l, x, got, e)
				continue
			}
			value := rat(x)
			for i, p := range got {
				from, to := rat(l[i].From), rat(l[i].To)
				var slope []*big.Rat
				for power, c := range p.P {
					slope = append(slope, new(big.Rat).Mul(rat(c), big.NewRat(int64(power), 1)))
				}
				if p.From != l[i].From || p.To != l[i].To || !slices.Equal(trimmed(slope[min(1, len(slope)):]), l[i].P) {
					t.Errorf("%v cumulated with %s is %v", l[i], x, p)
				}
				if valueOfPoly(p.P, from).Cmp(value) != 0 {
					t.Errorf("%v cumulated with %s has another value than %s at %s", l, x, text(value), l[i].From)
				}
				value.Add(value, integralOf(l[i].P, from, to))
			}
		}
	}
	for _, c := range []struct {
		l    string
		x    api.Rat
		want string
	}{
		{"0; : 1", "0", "0; : 1"}, {"0; : 1; : 2", "-1/2", "0; -1/2: 1; -1/2: 2"}, {"1; 2: 3", "5", "1; 3 2: 3"}, {"-1; 1: 0; -1: 1", "0", "-1; 1 1: 0; 1 -1: 1"}, {"0; 0 1: 2; 0 -1: 4", "0", "0; 0 0 1/2: 2; 4 0 -1/2: 4"}, {"2; 2: 3; : 4; 1: 5", "-4", "2; -8 2: 3; -2: 4; -6 1: 5"},
	} {
		if got, e := Cumulate(read(c.l), c.x); e != api.OK || !same(got, read(c.want)) {
			t.Errorf("%s cumulated with %s is %v, %d", c.l, c.x, got, e)
		}
	}
}

// P10.3, P10.5: it is the sum over the pieces.
func TestTotal(t *testing.T) {
	for _, l := range append(functions(11, 5), functions(12, api.MaxDegree-1)...) {
		want := new(big.Rat)
		for _, p := range l {
			want.Add(want, integralOf(p.P, rat(p.From), rat(p.To)))
		}
		if got, e := Total(l); e != api.OK || got != text(want) {
			t.Errorf("the total of %v is %s, %d", l, got, e)
		}
	}
	for s, want := range map[string]api.Rat{"0; : 1": "0", "0; 2: 3": "6", "-1; 2: 1/2": "3", "-1; 0 1: 1": "0", "0; 2: 1; 0 1: 3": "6", "1; -1: 2; 1: 4": "1", "0; 0 0 1: 1": "1/3"} {
		if got, e := Total(read(s)); e != api.OK || got != want {
			t.Errorf("the total of %s is %s, %d", s, got, e)
		}
	}
	if got, e := Total(steps(api.MaxPieces)); e != api.OK || got != "192" {
		t.Errorf("the total of steps is %s, %d", got, e)
	}
}

// Section Errors: the degree of any piece counts, and the greatest one that can be integrated is permitted.
func TestDegreesThatAreTooGreat(t *testing.T) {
	top, below := strings.Repeat("0 ", api.MaxDegree)+"17", strings.Repeat("0 ", api.MaxDegree-1)+"16"
	for _, s := range []string{"0; " + top + ": 1", "0; 1: 1; " + top + ": 2", "0; " + top + ": 1; 1: 2; " + top + ": 3"} {
		got, e := Cumulate(read(s), "0")
		total, f := Total(read(s))
		if got != nil || e != api.ErrLimit || total != "" || f != api.ErrLimit {
			t.Errorf("%s cumulated is %v, %d, with the total %s, %d", s, got, e, total, f)
		}
	}
	got, e := Cumulate(read("0; "+below+": 1; 1: 2"), "3")
	if e != api.OK || !same(got, read("0; 3 "+strings.Repeat("0 ", api.MaxDegree-1)+"1: 1; 3 1: 2")) {
		t.Errorf("cumulated: %v, %d", got, e)
	}
}

// P10.3: the ends of the range are no jumps, nor are pieces that go on with the same value.
func TestJumps(t *testing.T) {
	for _, l := range functions(13, 4) {
		var want []api.Rat
		for i, p := range l[1:] {
			if at := rat(p.From); valueOfPoly(p.P, at).Cmp(valueOfPoly(l[i].P, at)) != 0 {
				want = append(want, p.From)
			}
		}
		if got, e := Jumps(l); e != api.OK || !slices.Equal(got, want) {
			t.Errorf("%v jumps at %v, %d", l, got, e)
		}
	}
	for _, c := range [][2]string{
		{"0; 5: 1", ""}, {"0; 1: 1; 1: 2", ""}, {"0; 1: 1; 0 1: 2; 4 -1: 3; 1: 4", ""}, {"0; 1: 1; 2: 2", "1"}, {"9; 1: 10; 2: 11; 2: 12; 1: 13", "10 12"}, {"-3; : -2; 0 1: -1; : 0; : 1; 0 1: 2", "-2 -1 1"},
	} {
		got, e := Jumps(read(c[0]))
		var places []string
		for _, x := range got {
			places = append(places, string(x))
		}
		if e != api.OK || strings.Join(places, " ") != c[1] {
			t.Errorf("%s jumps at %v, %d", c[0], got, e)
		}
	}
}
