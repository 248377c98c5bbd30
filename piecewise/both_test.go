package piecewise

import (
	"math/big"
	"slices"
	"testing"

	"garboard/api"
)

// beginnings returns where pieces of one of two functions begin, ascending.
func beginnings(l, m []api.Piece) []*big.Rat {
	var out []*big.Rat
	for _, p := range slices.Concat(l, m) {
		out = append(out, rat(p.From))
	}
	slices.SortFunc(out, (*big.Rat).Cmp)
	return slices.CompactFunc(out, func(x, y *big.Rat) bool { return x.Cmp(y) == 0 })
}

// P10.2, P10.5: values of sums are sums of values.
func TestAdd(t *testing.T) {
	firsts, seconds := functions(5, 4), functions(6, 3)
	for _, l := range firsts {
		for _, m := range append(seconds, l) {
			got, e := Add(l, m)
			turned, f := Add(m, l)
			if e != api.OK || f != api.OK || Check(got) != api.OK || !same(got, turned) {
				t.Errorf("%v and %v are %v, %d, or %v, %d", l, m, got, e, turned, f)
				continue
			}
			if want := beginnings(l, m); !slices.EqualFunc(got, want, func(p api.Piece, x *big.Rat) bool { return p.From == text(x) }) || got[len(got)-1].To != "5" {
				t.Errorf("the sum of %v and %v is %v", l, m, got)
			}
			for _, x := range append(asked(got), append(asked(l), asked(m)...)...) {
				if want := new(big.Rat).Add(valueAt(l, x), valueAt(m, x)); valueAt(got, x).Cmp(want) != 0 {
					t.Errorf("the sum of %v and %v has another value than %s at %s", l, m, text(want), text(x))
				}
			}
		}
	}
	for _, c := range [][3]string{
		{"0; 1: 1", "0; 2: 1", "0; 3: 1"}, {"0; 1: 1", "0; -1: 1", "0; : 1"}, {"0; 1: 2", "0; 1: 1; 1: 2", "0; 2: 1; 2: 2"}, {"0; 1: 1; 2: 3", "0; 0 1: 2; 5: 3", "0; 1 1: 1; 2 1: 2; 7: 3"}, {"-1; 1: 0; 0 1: 1", "-1; 1: 0; 0 -1: 1", "-1; 2: 0; : 1"}, {"0; 1: 10; 2: 11", "0; 1: 9; 2: 11", "0; 2: 9; 3: 10; 4: 11"},
	} {
		if got, e := Add(read(c[0]), read(c[1])); e != api.OK || !same(got, read(c[2])) {
			t.Errorf("%s and %s are %v, %d", c[0], c[1], got, e)
		}
	}
}

// halves returns a function from 0 to a number with pieces that begin at 0 and in the middle of each piece of steps, but of the last ones only.
func halves(to, last int) []api.Piece {
	var out []api.Piece
	from := api.Rat("0")
	for i := to - last; i < to; i++ {
		end := text(big.NewRat(int64(2*i+1), 2))
		out = append(out, api.Piece{From: from, To: end, P: api.Poly{"3"}})
		from = end
	}
	return append(out, api.Piece{From: from, To: text(big.NewRat(int64(to), 1)), P: api.Poly{"4"}})
}

// Section Errors: a sum may have as many pieces as a function, but no more; places that both have count once.
func TestSumsWithManyPieces(t *testing.T) {
	for _, c := range []struct {
		pieces, more int
		want         api.Errno
	}{{127, 1, api.OK}, {128, 0, api.OK}, {128, 1, api.ErrTooLarge}, {64, 64, api.OK}, {65, 64, api.ErrTooLarge}, {100, 100, api.ErrTooLarge}, {120, 8, api.OK}, {120, 9, api.ErrTooLarge}} {
		l, m := steps(c.pieces), halves(c.pieces, c.more)
		got, e := Add(l, m)
		_, is, f := Exceeds(m, l)
		if e != c.want || f != c.want || e == api.OK && (len(got) != c.pieces+c.more || !is) || e != api.OK && (got != nil || is) {
			t.Errorf("%d pieces and %d: %d pieces, %v, %d, %d", c.pieces, c.more+1, len(got), is, e, f)
		}
	}
	all := steps(api.MaxPieces)
	if got, e := Add(all, all); e != api.OK || len(got) != api.MaxPieces {
		t.Errorf("a function twice: %d pieces, %d", len(got), e)
	}
}

// exceeding returns the first place at which a function is greater as it is defined.
func exceeding(l, m []api.Piece) (api.Rat, bool) {
	for _, x := range append(beginnings(l, m), rat(l[len(l)-1].To)) {
		if valueAt(l, x).Cmp(valueAt(m, x)) > 0 {
			return text(x), true
		}
	}
	return "", false
}

// P10.4
func TestExceeds(t *testing.T) {
	found := map[bool]int{}
	for i, l := range functions(7, 2) {
		for k, m := range append(functions(8, 2), l) {
			if k%2 == 0 {
				for n := range m {
					m[n].P = raised(m[n].P, big.NewRat(int64(i*3), 1))
				}
			}
			at, is, e := Exceeds(l, m)
			if want, isGreater := exceeding(l, m); e != api.OK || at != want || is != isGreater {
				t.Errorf("%v exceeds %v at %s, %v, %d", l, m, at, is, e)
			}
			found[is]++
		}
	}
	if found[true] < 20 || found[false] < 20 {
		t.Errorf("functions that are greater, and that are not: %v", found)
	}
	for _, c := range []struct {
		l, m string
		at   api.Rat
		is   bool
	}{
		{"0; 1: 1", "0; 1: 1", "", false}, {"0; 1: 1", "0; 2: 1", "", false}, {"0; 2: 1", "0; 1: 1", "0", true}, {"0; 0 1: 1", "0; 1/2: 1", "1", true}, {"0; 0 1: 1", "0; 1: 1", "", false}, {"0; 0 2 -2: 1", "0; 1/4: 1", "", false},
		{"0; 0 1: 1; 0 1: 2", "0; 1/2: 2", "1", true}, {"0; 0 1: 2", "0; 1/2: 1; 1/2: 2", "1", true}, {"0; 5: 1; 1: 2", "0; 5: 1; 1/2: 2", "1", true}, {"0; 0 1: 1; : 2", "0; 1/2: 1; 0 1: 2", "", false}, {"-3; 1: -2; 1: 10", "-3; 1: -2; 2: 9; 1/2: 10", "9", true}, {"0; 1: 9; 3: 10; 3: 11", "0; 2: 11", "9", true},
	} {
		if at, is, e := Exceeds(read(c.l), read(c.m)); e != api.OK || at != c.at || is != c.is {
			t.Errorf("%s exceeds %s at %q, %v, %d", c.l, c.m, at, is, e)
		}
	}
}

// P10.2: pieces of both functions are yielded up to the one at which a loop ends, and again from the first one on.
func TestMerged(t *testing.T) {
	l, m := read("0; 1: 1; 2: 3"), read("0; 3: 2; 4: 3")
	all := merged(l, m, []api.Rat{"0", "1", "2", "3"})
	for count := range 4 {
		var got, want []api.Piece
		for p, r := range all {
			if len(got) == 2*count {
				break
			}
			got = append(got, p, r)
		}
		for _, s := range []string{"0; 1: 1", "0; 3: 1", "1; 2: 2", "1; 3: 2", "2; 2: 3", "2; 4: 3"}[:2*count] {
			want = append(want, read(s)...)
		}
		if !same(got, want) {
			t.Errorf("%d pieces of both: %v", count, got)
		}
	}
}
