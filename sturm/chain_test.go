package sturm

import (
	"math/rand"
	"slices"
	"testing"

	"garboard/api"
)

// P9.1: what the chain is computed with are positive multiples by integers without a common divisor.
func TestPrimitive(t *testing.T) {
	for _, c := range [][2]string{
		{"", ""}, {"5", "1"}, {"-5/3", "-1"}, {"1/2 1/3", "3 2"}, {"-1/2 0 -1/3", "-3 0 -2"}, {"6 -9 12", "2 -3 4"}, {"6/35 -9/35 12/7", "2 -3 20"}, {"0 0 7", "0 0 1"}, {"1 1/1000000007", "1000000007 1"}, {"0 1/6 1/10 1/15", "0 5 3 2"},
	} {
		if got := primitive(read(c[0])); !slices.Equal(got, read(c[1])) {
			t.Errorf("the primitive multiple of %s is %v", c[0], got)
		}
	}
}

// P9.1: the chain begins with a multiple of the simple part and ends with a constant, all of it integers; its second polynomial has the sign of the slope of the first one at its roots.
func TestChain(t *testing.T) {
	for _, k := range knowns(rand.New(rand.NewSource(9)), api.MaxDegree) {
		c := chainOf(texts(k.p))
		if first := scaled(c[0], over("1", leading(c[0]))); !slices.Equal(first, texts(k.simple)) || len(c[len(c)-1]) != 1 {
			t.Errorf("the chain of %v begins with %v and ends with %v", texts(k.p), c[0], c[len(c)-1])
		}
		for _, p := range c {
			for _, x := range p {
				if !rat(x).IsInt() {
					t.Errorf("the chain of %v has %v", texts(k.p), p)
				}
			}
		}
		for _, x := range rats(read("0 1 -1 2 1/2 -7/3 3/8 1000")) {
			if value(k.p, x).Sign() != 0 {
				continue
			}
			if value(rats(c[1]), x).Sign()*value(rats(derived(c[0])), x).Sign() <= 0 {
				t.Errorf("the chain of %v has not the sign of the slope at %s", texts(k.p), text(x))
			}
		}
	}
}

// P9.1: signs are those of values, also of polynomials that are shorter than the first one of their chain.
func TestSigns(t *testing.T) {
	for _, k := range knowns(rand.New(rand.NewSource(10)), api.MaxDegree) {
		c := chainOf(texts(k.p))
		for _, x := range rats(read("0 1 -1 2 -1/2 3/8 7/3 -1000000007/3 1/1000000007 123456789012345678901/16777216")) {
			at := c.place(text(x))
			for _, p := range c {
				if got := at.sign(p); got != value(rats(p), x).Sign() {
					t.Errorf("%v has the sign %d at %s", p, got, text(x))
				}
			}
		}
	}
}
