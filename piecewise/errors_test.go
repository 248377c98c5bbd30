package piecewise

import (
	"reflect"
	"slices"
	"strings"
	"sync"
	"testing"

	"garboard/api"
)

// none are strings that are no numbers.
var none = []api.Rat{"", "-0", "2/4", "1.5", "01", "1/0", "4/1", "x", "\xff", "123456789012345678901234567890/246913578024691357802469135780"}

// answer is what a function returned.
type answer struct {
	Pieces        []api.Piece
	Number        api.Rat
	List          []api.Rat
	Is            bool
	First, Second api.Interval
	Error         api.Errno
}

func pieces(l []api.Piece, e api.Errno) answer     { return answer{Pieces: l, Error: e} }
func number(x api.Rat, e api.Errno) answer         { return answer{Number: x, Error: e} }
func list(l []api.Rat, e api.Errno) answer         { return answer{List: l, Error: e} }
func place(x api.Rat, is bool, e api.Errno) answer { return answer{Number: x, Is: is, Error: e} }
func both(a, b api.Interval, e api.Errno) answer   { return answer{First: a, Second: b, Error: e} }

// expect checks that there is nothing but an error.
func expect(t *testing.T, what any, e api.Errno, answers ...answer) {
	t.Helper()
	for i, got := range answers {
		if !reflect.DeepEqual(got, answer{Error: e}) {
			t.Errorf("%v: answer %d is %v instead of the error %d", what, i, got, e)
		}
	}
}

// wrong returns functions that are not right, one for each error.
func wrong() map[api.Errno][]api.Piece {
	return map[api.Errno][]api.Piece{
		api.ErrEmpty: nil, api.ErrTooLarge: steps(api.MaxPieces + 1), api.ErrArg: read("0; 1: 1; 2/4: 2"), api.ErrRange: read("0; 1: 1; 1: 1"), api.ErrMismatch: append(read("0; 1: 1"), read("2; 1: 3")...),
	}
}

// Section Errors, DOC P1: the error of Check comes first, that of the first function ahead of that of the second one, and every other result is zero.
func TestFunctionsThatAreNotRight(t *testing.T) {
	for e, l := range wrong() {
		expect(t, l, e, pieces(Normal(l)), number(Total(l)), list(Jumps(l)))
		for _, x := range []api.Rat{"0", "99", "x"} {
			expect(t, l, e, number(Eval(l, x)), pieces(Scale(l, x)), pieces(Cumulate(l, x)))
		}
		for _, k := range []int{0, 24, -1, 25} {
			expect(t, l, e, both(Extremes(l, k)))
		}
		right := [][]api.Piece{read("0; 1: 1"), read("7; 1: 8"), steps(api.MaxPieces)}
		for _, m := range right {
			expect(t, l, e, pieces(Add(m, l)), place(Exceeds(m, l)))
		}
		for _, m := range wrong() {
			right = append(right, m)
		}
		for _, m := range right {
			expect(t, l, e, pieces(Add(l, m)), place(Exceeds(l, m)))
		}
	}
}

// Section Errors: ahead of a place out of the range, and of degrees that are too great.
func TestNumbersThatAreNotValid(t *testing.T) {
	for _, s := range []string{"0; 1: 1", "0; : 1; 0 1: 2", "0; " + strings.Repeat("1 ", 17) + ": 1"} {
		for _, x := range none {
			expect(t, x, api.ErrArg, number(Eval(read(s), x)), pieces(Scale(read(s), x)), pieces(Cumulate(read(s), x)))
		}
	}
}

// Section Errors
func TestPlacesOutOfTheRange(t *testing.T) {
	l := read("-1/2; 1: 1; 2: 7/3")
	for _, x := range []api.Rat{"-1", "-1000001/2000000", "3", "7000001/3000000", "-123456789012345678901234567890", "123456789012345678901234567890"} {
		expect(t, x, api.ErrRange, number(Eval(l, x)))
	}
	for _, x := range []api.Rat{"-1/2", "1", "7/3"} {
		if _, e := Eval(l, x); e != api.OK {
			t.Errorf("at %s the error is %d", x, e)
		}
	}
}

// Section Errors: ahead of places that are too many.
func TestRangesThatAreNotEqual(t *testing.T) {
	l := steps(api.MaxPieces)
	var shifted []api.Piece
	for _, p := range halves(api.MaxPieces, 50) {
		shifted = append(shifted, p)
	}
	shifted[len(shifted)-1].To = "1000"
	for _, m := range [][]api.Piece{shifted, read("0; 1: 127"), read("1; 1: 128"), read("-1; 1: 0; 1: 128"), read("0; 1: 128; 1: 129"), read("500; 1: 501")} {
		expect(t, m, api.ErrMismatch, pieces(Add(l, m)), pieces(Add(m, l)), place(Exceeds(l, m)), place(Exceeds(m, l)))
	}
}

// Section Errors: those of the extremes of any piece, the halvings first.
func TestExtremesThatAreNotFound(t *testing.T) {
	near := "0 1/562949953421312 -3/67108864 1/3" // its slope has roots that are 2^-25 apart
	for _, s := range []string{"0; " + near + ": 1", "-1; 1: 0; " + near + ": 1", "-1; 1: 0; " + near + ": 1; 1: 2"} {
		for _, k := range []int{0, 24} {
			expect(t, s, api.ErrLimit, both(Extremes(read(s), k)))
		}
	}
	for _, s := range []string{"0; 1: 1", "0; : 1; 0 1: 2", "0; " + near + ": 1"} {
		for _, k := range []int{-1, 25, 1 << 40, -1 << 63} {
			expect(t, s, api.ErrRange, both(Extremes(read(s), k)))
		}
	}
}

// askAll calls every function.
func askAll(l, m []api.Piece) []answer {
	return []answer{{Error: Check(l)}, pieces(Normal(l)), number(Eval(l, "1/3")), pieces(Add(l, m)), pieces(Scale(l, "-1/2")), pieces(Scale(l, "1")), pieces(Cumulate(l, "2")), number(Total(l)), list(Jumps(l)), both(Extremes(l, 3)), place(Exceeds(l, m))}
}

// overwrite changes all of the memory of a function.
func overwrite(l []api.Piece) {
	l = l[:cap(l)]
	for i := range l {
		p := l[i].P[:cap(l[i].P)]
		for k := range p {
			p[k] = "changed"
		}
		l[i] = api.Piece{From: "changed", To: "changed"}
	}
}

// The chapter, DOC section Rules: arguments are not changed, results share no memory with them, and pieces of a result none with each other.
func TestMemoryIsNotShared(t *testing.T) {
	all := append(functions(15, 3), read("-5; 1 2: 0; 1 2: 5"))
	for i := range all {
		first, second := all[i], all[(i*7+3)%len(all)]
		l, m := copied(first), copied(second)
		for n, got := range askAll(l, m) {
			for k, p := range got.Pieces {
				if slices.Contains(p.P, "changed") {
					t.Errorf("piece %d of answer %d shares memory", k, n)
				}
				p.P = p.P[:cap(p.P)]
				for at := range p.P {
					p.P[at] = "changed"
				}
			}
			overwrite(got.Pieces)
			if !same(l, first) || !same(m, second) {
				t.Fatalf("answer %d has changed the arguments", n)
			}
		}
		kept, again := askAll(l, m), askAll(first, second)
		overwrite(l)
		overwrite(m)
		if !reflect.DeepEqual(kept, again) {
			t.Errorf("results for %v and %v have changed", first, second)
		}
	}
}

// DOC P2, P3: calls at once, and in any order, return what calls alone return.
func TestCallsAtOnce(t *testing.T) {
	all := functions(16, 4)
	ask := func(i int) []answer { return askAll(all[i], all[(i*3+2)%len(all)]) }
	alone := make([][]answer, len(all))
	for i := range all {
		alone[i] = ask(i)
	}
	var group sync.WaitGroup
	for range 4 {
		group.Go(func() {
			for i := len(all) - 1; i >= 0; i-- {
				if again := ask(i); !reflect.DeepEqual(again, alone[i]) {
					t.Errorf("%v: %v and %v", all[i], again, alone[i])
				}
			}
		})
	}
	group.Wait()
}
