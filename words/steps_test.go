package words

import (
	"math/big"
	"math/rand"
	"slices"
	"testing"
)

func TestBlend(t *testing.T) {
	source := rand.New(rand.NewSource(5))
	factors := []int64{0, 1, -1, Base, -Base, Base - 1, 1 - Base}
	for range 50000 {
		var f [4]int64
		for i := range f {
			f[i] = factors[source.Intn(len(factors))]
		}
		x, y := randomWords(source, source.Intn(4)), randomWords(source, source.Intn(4))
		first, second := combination(x, y, f[0], f[1]), combination(x, y, f[2], f[3])
		if first.Sign() < 0 || second.Sign() < 0 {
			continue
		}
		p, q := blend(slices.Clone(x), slices.Clone(y), f[0], f[1], f[2], f[3])
		if !isTrimmed(p) || !isTrimmed(q) || toBig(p).Cmp(first) != 0 || toBig(q).Cmp(second) != 0 {
			t.Fatalf("%v and %v become %v and %v with %v", x, y, p, q, f)
		}
	}
}

func combination(x, y []uint64, a, b int64) *big.Int {
	p := new(big.Int).Mul(big.NewInt(a), toBig(x))
	return p.Add(p, new(big.Int).Mul(big.NewInt(b), toBig(y)))
}

// Steps that were found from the highest digits have to be those of the whole numbers, whatever their further digits are.
func TestStepsAreSure(t *testing.T) {
	const further = 1000
	found := 0
	for x := range uint64(400) {
		for y := range x + 1 {
			s := sureSteps(x, y)
			if s.b > 0 {
				found++
			}
			for _, whole := range [][2]uint64{{x * further, y * further}, {x*further + further - 1, y * further}, {x * further, y*further + further - 1}, {x*further + further - 1, y*further + further - 1}} {
				if !leadsTo(s, whole[0], whole[1]) {
					t.Errorf("%v are no steps of %v", s, whole)
				}
			}
		}
	}
	if found == 0 {
		t.Error("there are no steps")
	}
}

// leadsTo reports whether Euclid's algorithm comes by with some steps.
func leadsTo(want steps, x, y uint64) bool {
	s := steps{a: 1, d: 1}
	for s != want && y > 0 && s.d <= want.d {
		s = s.with(x / y)
		x, y = y, x%y
	}
	return s == want
}
