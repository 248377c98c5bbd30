package sturm

import (
	"math/big"
	"math/rand"
	"slices"
	"testing"

	"garboard/api"
)

// P9.1
func TestSimple(t *testing.T) {
	for _, k := range knowns(rand.New(rand.NewSource(1)), api.MaxDegree) {
		if got, e := Simple(texts(k.p)); e != api.OK || !slices.Equal(got, texts(k.simple)) {
			t.Errorf("the simple part of %v is %v, %d", texts(k.p), got, e)
		}
	}
	for _, c := range [][2]string{
		{"7", "1"}, {"-1/2", "1"}, {"3 2", "3/2 1"}, {"3 -2", "-3/2 1"}, {"0 0 5", "0 1"}, {"1 2 1", "1 1"}, {"-2 -4 -2", "1 1"}, {"0 -1 0 1", "0 -1 0 1"}, {"1 0 -2 0 1", "-1 0 1"}, {"1 0 2 0 1", "1 0 1"},
		{"0 0 0 0 0 0 0 0 0 0 0 0 0 0 0 0 1", "0 1"}, {"-1 0 0 0 0 0 0 0 0 0 0 0 0 0 0 0 1", "-1 0 0 0 0 0 0 0 0 0 0 0 0 0 0 0 1"},
	} {
		if got, e := Simple(read(c[0])); e != api.OK || !slices.Equal(got, read(c[1])) {
			t.Errorf("the simple part of %s is %v, %d", c[0], got, e)
		}
	}
}

// P9.1: also with roots at the ends, of which the lower one does not count.
func TestCount(t *testing.T) {
	source := rand.New(rand.NewSource(2))
	for _, k := range knowns(source, api.MaxDegree) {
		for _, s := range spans(source, 6) {
			if got, e := Count(texts(k.p), s.interval()); e != api.OK || got != len(k.rootsIn(s)) {
				t.Errorf("%v has %d roots in %v, %d", texts(k.p), got, s.interval(), e)
			}
		}
	}
	for _, c := range []struct {
		p      string
		lo, hi api.Rat
		want   int
	}{
		{"5", "-1", "1", 0}, {"-5", "-1", "1", 0}, {"0 1", "0", "1", 0}, {"0 1", "-1", "0", 1}, {"0 0 0 1", "0", "1", 0}, {"0 0 0 1", "-1", "0", 1}, {"0 0 -1", "-1", "1", 1}, {"1 0 1", "-100", "100", 0},
		{"-2 0 1", "-2", "2", 2}, {"-2 0 1", "0", "707106781/500000000", 0}, {"-2 0 1", "0", "1414213563/1000000000", 1}, {"0 -1 0 1", "-1", "1", 2}, {"0 1 0 -1", "-1", "1", 2},
		{"-1 0 0 0 0 0 0 0 0 0 0 0 0 0 0 0 1", "-1", "1", 1}, {"-1 0 0 0 0 0 0 0 0 0 0 0 0 0 0 0 1", "-5", "5", 2}, {"1 0 0 0 0 0 0 0 0 0 0 0 0 0 0 0 1", "-5", "5", 0}, {"-1 -1 0 0 0 1", "-2", "2", 1}, {"1 -3 0 1", "-2", "2", 3}, {"1 -3 0 1", "0", "1", 1},
	} {
		if got, e := Count(read(c.p), api.Interval{Lo: c.lo, Hi: c.hi}); e != api.OK || got != c.want {
			t.Errorf("%s has %d roots from %s to %s, %d", c.p, got, c.lo, c.hi, e)
		}
	}
}

// remaindersOf returns a polynomial, its derivative, and the opposites of remainders, as they are.
func remaindersOf(p []*big.Rat) [][]*big.Rat {
	out := [][]*big.Rat{p, nil}
	for i, c := range p[1:] {
		out[1] = append(out[1], new(big.Rat).Mul(c, big.NewRat(int64(i+1), 1)))
	}
	for len(out[len(out)-1]) > 0 {
		last := out[len(out)-1]
		rest := rats(texts(out[len(out)-2]))
		for len(rest) >= len(last) {
			factor := new(big.Rat).Quo(rest[len(rest)-1], last[len(last)-1])
			for i, c := range last {
				at := rest[len(rest)-len(last)+i]
				at.Sub(at, new(big.Rat).Mul(factor, c))
			}
			rest = rats(texts(rest))
		}
		for _, c := range rest {
			c.Neg(c)
		}
		out = append(out, rest)
	}
	return out[:len(out)-1]
}

// changesAt counts the changes of sign in a chain.
func changesAt(chain [][]*big.Rat, x *big.Rat) int {
	var signs []int
	for _, p := range chain {
		if s := value(p, x).Sign(); s != 0 {
			signs = append(signs, s)
		}
	}
	return len(slices.Compact(signs)) - 1
}

// P9.1: polynomials with any roots, in ranges at whose ends there are none.
func TestCountOfAnyRoots(t *testing.T) {
	source := rand.New(rand.NewSource(3))
	for range 150 {
		p := make([]*big.Rat, 2+source.Intn(api.MaxDegree))
		for i := range p {
			p[i] = big.NewRat(max(0, source.Int63n(30)-15)-source.Int63n(2)*source.Int63n(9), 1+source.Int63n(3))
		}
		if p = rats(texts(p)); len(p) < 2 {
			continue
		}
		chain := remaindersOf(p)
		for _, s := range spans(source, 6) {
			if value(p, s.lo).Sign() == 0 || value(p, s.hi).Sign() == 0 {
				continue
			}
			want := changesAt(chain, s.lo) - changesAt(chain, s.hi)
			if got, e := Count(texts(p), s.interval()); e != api.OK || got != want {
				t.Errorf("%v has %d roots instead of %d in %v, %d", texts(p), got, want, s.interval(), e)
			}
		}
	}
}

// P9.4: the roots of two ranges one behind the other add up.
func TestCountsAddUp(t *testing.T) {
	source := rand.New(rand.NewSource(4))
	for _, k := range knowns(source, 9) {
		for _, s := range spans(source, 5) {
			for _, m := range rats(read("-1 0 1/2 1 2")) {
				if m.Cmp(s.lo) <= 0 || m.Cmp(s.hi) >= 0 {
					continue
				}
				lower, _ := Count(texts(k.p), span{s.lo, m}.interval())
				upper, _ := Count(texts(k.p), span{m, s.hi}.interval())
				if all, e := Count(texts(k.p), s.interval()); e != api.OK || all != lower+upper {
					t.Errorf("%v has %d roots in %v, but %d and %d", texts(k.p), all, s.interval(), lower, upper)
				}
			}
		}
	}
}

// P9.2
func TestIsolate(t *testing.T) {
	source := rand.New(rand.NewSource(5))
	for _, k := range knowns(source, api.MaxDegree) {
		for _, s := range spans(source, 2) {
			for _, halvings := range []int{0, 1, 3, 24} {
				want, ok := k.isolated(s, halvings)
				got, e := Isolate(texts(k.p), s.interval(), halvings)
				if !ok {
					if got != nil || e != api.ErrLimit {
						t.Errorf("the roots of %v in %v are isolated with %d halvings: %v, %d", texts(k.p), s.interval(), halvings, got, e)
					}
				} else if e != api.OK || !slices.Equal(got, intervals(want)) {
					t.Errorf("the roots of %v in %v are isolated with %d halvings in %v, %d", texts(k.p), s.interval(), halvings, got, e)
				}
			}
		}
	}
}

// P9.2: roots that are as near as just can be isolated, and nearer ones.
func TestIsolateNearOnes(t *testing.T) {
	for halvings := 1; halvings <= api.MaxHalvings; halvings++ {
		gap := new(big.Rat).SetFrac64(1, 1<<halvings)
		p := texts(multiplied([]*big.Rat{new(big.Rat).Neg(gap), big.NewRat(1, 1)}, []*big.Rat{new(big.Rat).Neg(new(big.Rat).Add(gap, gap)), big.NewRat(1, 1)}))
		in := api.Interval{Lo: "0", Hi: "1"}
		twice := text(new(big.Rat).Add(gap, gap))
		want := []api.Interval{{Lo: "0", Hi: text(gap)}, {Lo: text(gap), Hi: twice}}
		if got, e := Isolate(p, in, halvings); e != api.OK || !slices.Equal(got, want) {
			t.Errorf("the roots of %v are isolated with %d halvings in %v, %d", p, halvings, got, e)
		}
		if got, e := Isolate(p, in, halvings-1); e != api.ErrLimit || got != nil {
			t.Errorf("the roots of %v are isolated with %d halvings in %v, %d", p, halvings-1, got, e)
		}
	}
}

// chebyshev returns the polynomial of a degree with as many roots from -1 to 1.
func chebyshev(degree int) []*big.Rat {
	before, last := rats(read("1")), rats(read("0 1"))
	for range degree - 1 {
		next := multiplied(rats(read("0 2")), last)
		for i, c := range before {
			next[i].Sub(next[i], c)
		}
		before, last = last, next
	}
	return last
}

// P9.4: each isolated range has one root, and together they have all; polynomials with as many roots as there can be.
func TestIsolateHasAllRoots(t *testing.T) {
	for degree := 1; degree <= api.MaxDegree; degree++ {
		p := chebyshev(degree)
		got, e := Isolate(texts(p), api.Interval{Lo: "-1", Hi: "1"}, api.MaxHalvings)
		if e != api.OK || len(got) != degree {
			t.Errorf("%d ranges of roots of %v, %d", len(got), texts(p), e)
			continue
		}
		end := rat("-1")
		for _, in := range got {
			if n, e := Count(texts(p), in); e != api.OK || n != 1 || rat(in.Lo).Cmp(end) < 0 {
				t.Errorf("%v has %d roots of %v, %d", in, n, texts(p), e)
			}
			if value(p, rat(in.Hi)).Sign() != 0 && value(p, rat(in.Lo)).Sign()*value(p, rat(in.Hi)).Sign() > 0 {
				t.Errorf("%v has the same sign at the ends of %v", texts(p), in)
			}
			end = rat(in.Hi)
		}
	}
}

// P9.2: also where an end or a middle is a root.
func TestNarrow(t *testing.T) {
	source := rand.New(rand.NewSource(6))
	found := 0
	for _, k := range knowns(source, api.MaxDegree) {
		for _, s := range spans(source, 10) {
			times := []int{0, 1, 2, 3, 7, 24}[source.Intn(6)]
			got, e := Narrow(texts(k.p), s.interval(), times)
			if len(k.rootsIn(s)) != 1 {
				if got != (api.Interval{}) || e != api.ErrState {
					t.Errorf("%v with the roots %d of %v was narrowed to %v, %d", s.interval(), len(k.rootsIn(s)), texts(k.p), got, e)
				}
				continue
			}
			found++
			if e != api.OK || got != k.narrowed(s, times).interval() {
				t.Errorf("%v with a root of %v was narrowed %d times to %v, %d", s.interval(), texts(k.p), times, got, e)
			}
		}
	}
	if found < 100 {
		t.Errorf("only %d ranges were narrowed", found)
	}
	for _, c := range []struct {
		p        string
		in, want api.Interval
		k        int
	}{
		{"-2 0 1", api.Interval{Lo: "1", Hi: "2"}, api.Interval{Lo: "11/8", Hi: "3/2"}, 3}, {"-1 1", api.Interval{Lo: "0", Hi: "1"}, api.Interval{Lo: "7/8", Hi: "1"}, 3}, {"-1 1", api.Interval{Lo: "0", Hi: "2"}, api.Interval{Lo: "3/4", Hi: "1"}, 3},
		{"0 -1 1", api.Interval{Lo: "0", Hi: "3"}, api.Interval{Lo: "3/4", Hi: "3/2"}, 2}, {"0 0 -1 1", api.Interval{Lo: "0", Hi: "1"}, api.Interval{Lo: "3/4", Hi: "1"}, 2}, {"0 1 -1", api.Interval{Lo: "0", Hi: "3"}, api.Interval{Lo: "3/4", Hi: "3/2"}, 2}, {"0 1", api.Interval{Lo: "-1", Hi: "1"}, api.Interval{Lo: "-1", Hi: "1"}, 0},
	} {
		if got, e := Narrow(read(c.p), c.in, c.k); e != api.OK || got != c.want {
			t.Errorf("%v with a root of %s was narrowed %d times to %v, %d", c.in, c.p, c.k, got, e)
		}
	}
}

// P9.3: both ends count, and roots at which the sign does not change.
func TestPositive(t *testing.T) {
	source := rand.New(rand.NewSource(7))
	for _, k := range knowns(source, api.MaxDegree) {
		for _, s := range spans(source, 12) {
			want := len(k.rootsIn(s)) == 0 && value(k.p, s.lo).Sign() > 0
			if got, e := Positive(texts(k.p), s.interval()); e != api.OK || got != want {
				t.Errorf("%v is greater than 0 on %v: %v, %d", texts(k.p), s.interval(), got, e)
			}
		}
	}
	for _, c := range []struct {
		p      string
		lo, hi api.Rat
		want   bool
	}{
		{"", "0", "1", false}, {"1/100", "0", "1", true}, {"-1", "0", "1", false}, {"0 1", "0", "1", false}, {"0 1", "1", "2", true}, {"0 -1", "-1", "0", false}, {"0 -1", "-2", "-1", true}, {"0 0 1", "-1", "1", false}, {"1/1000000 0 1", "-1", "1", true}, {"-1/1000000 0 1", "-1", "1", false},
		{"-1 0 1", "1", "2", false}, {"-1 0 1", "-2", "-1", false}, {"-1 0 1", "2", "3", true}, {"1 0 -1", "-1/2", "1/2", true}, {"1 0 -1", "2", "3", false}, {"4 -4 1", "0", "3", false}, {"4 -4 1", "0", "2", false}, {"4 -4 1", "2", "3", false}, {"4 -4 1", "0", "1", true},
	} {
		if got, e := Positive(read(c.p), api.Interval{Lo: c.lo, Hi: c.hi}); e != api.OK || got != c.want {
			t.Errorf("%s is greater than 0 from %s to %s: %v, %d", c.p, c.lo, c.hi, got, e)
		}
	}
}

// P9.3, P9.4: no value on a range is less than the least one, or greater than the greatest one.
func TestExtremes(t *testing.T) {
	source := rand.New(rand.NewSource(8))
	for _, k := range knowns(source, api.MaxDegree-1) {
		p := integrated(k.p, big.NewRat(source.Int63n(19)-9, 1+source.Int63n(4)))
		for _, s := range spans(source, 4) {
			times := []int{0, 1, 3, 10, 24}[source.Intn(5)]
			least, greatest, e := Extremes(texts(p), s.interval(), times)
			wantLeast, wantGreatest, ok := k.extremes(p, s, times)
			if !ok {
				if least != (api.Interval{}) || greatest != (api.Interval{}) || e != api.ErrLimit {
					t.Errorf("the extremes of %v on %v are %v, %v, %d", texts(p), s.interval(), least, greatest, e)
				}
				continue
			}
			if e != api.OK || least != wantLeast || greatest != wantGreatest {
				t.Errorf("the extremes of %v on %v with %d narrowings are %v, %v, %d instead of %v and %v", texts(p), s.interval(), times, least, greatest, e, wantLeast, wantGreatest)
				continue
			}
			for i := range int64(9) {
				x := new(big.Rat).Sub(s.hi, s.lo)
				y := value(p, x.Add(s.lo, x.Mul(x, big.NewRat(i, 8))))
				if y.Cmp(rat(least.Lo)) < 0 || y.Cmp(rat(greatest.Hi)) > 0 {
					t.Errorf("%v has the value %s on %v, but the extremes %v and %v", texts(p), text(y), s.interval(), least, greatest)
				}
			}
		}
	}
}

// P9.3: constants, ends that are extremes, and a root of the derivative at each end.
func TestExtremesOfSmallOnes(t *testing.T) {
	exactly := func(x api.Rat) api.Interval { return api.Interval{Lo: x, Hi: x} }
	for _, c := range []struct {
		p               string
		in              api.Interval
		k               int
		least, greatest api.Interval
	}{
		{"", api.Interval{Lo: "-1", Hi: "2"}, 0, exactly("0"), exactly("0")}, {"-7/2", api.Interval{Lo: "-1", Hi: "2"}, 24, exactly("-7/2"), exactly("-7/2")}, {"1 2", api.Interval{Lo: "-1", Hi: "2"}, 3, exactly("-1"), exactly("5")}, {"1 -2", api.Interval{Lo: "-1", Hi: "2"}, 3, exactly("-3"), exactly("3")},
		{"0 0 1", api.Interval{Lo: "0", Hi: "2"}, 1, exactly("0"), exactly("4")}, {"0 0 1", api.Interval{Lo: "-2", Hi: "0"}, 1, exactly("0"), exactly("4")}, {"0 0 1", api.Interval{Lo: "-2", Hi: "2"}, 0, api.Interval{Lo: "-4", Hi: "4"}, exactly("4")}, {"0 0 -1", api.Interval{Lo: "-2", Hi: "2"}, 1, exactly("-4"), api.Interval{Lo: "-4", Hi: "0"}},
		{"0 0 0 1", api.Interval{Lo: "-1", Hi: "1"}, 2, exactly("-1"), exactly("1")}, {"0 -1 1", api.Interval{Lo: "0", Hi: "2"}, 2, api.Interval{Lo: "-1/2", Hi: "0"}, exactly("2")}, {"0 -1 1", api.Interval{Lo: "0", Hi: "2"}, 0, api.Interval{Lo: "-2", Hi: "0"}, exactly("2")},
	} {
		if least, greatest, e := Extremes(read(c.p), c.in, c.k); e != api.OK || least != c.least || greatest != c.greatest {
			t.Errorf("the extremes of %s on %v with %d narrowings are %v, %v, %d", c.p, c.in, c.k, least, greatest, e)
		}
	}
}

// P9.3: 24 halvings isolate the roots of a derivative that are 2^-24 of the range apart, but no nearer ones.
func TestExtremesWithNearRoots(t *testing.T) {
	for _, c := range []struct {
		gap  int64
		want api.Errno
	}{{1 << 24, api.OK}, {1 << 25, api.ErrLimit}} {
		gap := big.NewRat(1, c.gap)
		slope := multiplied([]*big.Rat{new(big.Rat).Neg(gap), big.NewRat(1, 1)}, []*big.Rat{new(big.Rat).Neg(new(big.Rat).Add(gap, gap)), big.NewRat(1, 1)})
		p := texts(integrated(slope, new(big.Rat)))
		for _, k := range []int{0, 24} {
			least, greatest, e := Extremes(p, api.Interval{Lo: "0", Hi: "1"}, k)
			if e != c.want || (least == api.Interval{} || greatest == api.Interval{}) != (e != api.OK) {
				t.Errorf("the extremes of %v are %v, %v, %d", p, least, greatest, e)
			}
		}
	}
}

// The chapter's and the document's examples.
func TestExamples(t *testing.T) {
	p := read("0 -1 0 1")
	if n, e := Count(p, api.Interval{Lo: "-2", Hi: "2"}); n != 3 || e != api.OK {
		t.Errorf("%d roots, %d", n, e)
	}
	if n, e := Count(p, api.Interval{Lo: "-1", Hi: "1"}); n != 2 || e != api.OK {
		t.Errorf("%d roots, %d", n, e)
	}
	if l, e := Isolate(p, api.Interval{Lo: "-2", Hi: "2"}, 3); e != api.OK || !slices.Equal(l, []api.Interval{{Lo: "-2", Hi: "-1"}, {Lo: "-1", Hi: "0"}, {Lo: "0", Hi: "2"}}) {
		t.Errorf("isolated: %v, %d", l, e)
	}
	least, greatest, e := Extremes(read("0 -1 1"), api.Interval{Lo: "0", Hi: "2"}, 2)
	if e != api.OK || least != (api.Interval{Lo: "-1/2", Hi: "0"}) || greatest != (api.Interval{Lo: "2", Hi: "2"}) {
		t.Errorf("extremes: %v, %v, %d", least, greatest, e)
	}
}
