package matrix

import (
	"maps"
	"math/big"
	"math/rand"
	"reflect"
	"slices"
	"sync"
	"testing"

	"garboard/api"
)

// answer is what a function returned.
type answer struct {
	Rows   [][]api.Rat
	List   []api.Rat
	Number api.Rat
	Count  int
	Error  api.Errno
}

func matrix(a [][]api.Rat, e api.Errno) answer { return answer{Rows: a, Error: e} }
func vector(x []api.Rat, e api.Errno) answer   { return answer{List: x, Error: e} }
func number(x api.Rat, e api.Errno) answer     { return answer{Number: x, Error: e} }
func count(n int, e api.Errno) answer          { return answer{Count: n, Error: e} }
func fit(x []api.Rat, residual api.Rat, e api.Errno) answer {
	return answer{List: x, Number: residual, Error: e}
}

// expect checks that there is nothing but an error.
func expect(t *testing.T, what any, e api.Errno, answers ...answer) {
	t.Helper()
	for i, got := range answers {
		if !reflect.DeepEqual(got, answer{Error: e}) {
			t.Errorf("%v: answer %d is %v instead of the error %d", what, i, got, e)
		}
	}
}

// wrong returns matrices that are not right, one for each of some errors.
func wrong() map[api.Errno][][]api.Rat {
	return map[api.Errno][][]api.Rat{
		api.ErrEmpty: {{}}, api.ErrTooLarge: filled(13, 2, "1"), api.ErrMismatch: rows("1 2; 3"), api.ErrArg: rows("1 2; 3 2/4"),
	}
}

// Section Errors, DOC P1: the error of Check comes first, that of the first matrix ahead of that of the second one, and every other result is zero.
func TestMatricesThatAreNotRight(t *testing.T) {
	for e, a := range wrong() {
		expect(t, a, e, matrix(Transpose(a)), number(Det(a)), count(Rank(a)), matrix(Inverse(a)))
		for _, b := range append(slices.Collect(maps.Values(wrong())), filled(2, 2, "1"), filled(5, 1, "1")) {
			expect(t, a, e, matrix(Mul(a, b)))
		}
		for _, b := range [][][]api.Rat{filled(2, 2, "1"), filled(1, 12, "1"), filled(12, 1, "-1/2")} {
			expect(t, a, e, matrix(Mul(b, a)))
		}
		for _, b := range [][]api.Rat{nil, {"1", "1"}, {"1"}, {"x"}, slices.Repeat([]api.Rat{"1"}, 13)} {
			expect(t, a, e, vector(Solve(a, b)), fit(Fit(a, b)))
		}
	}
}

// Section Errors: a list that is not right comes ahead of sizes that do not fit, and of what is singular.
func TestListsThatAreNotRight(t *testing.T) {
	lists := [][]api.Rat{nil, {}, slices.Repeat([]api.Rat{"1"}, 13), append(slices.Repeat([]api.Rat{"1"}, 11), "x")}
	for _, x := range none {
		lists = append(lists, []api.Rat{x}, []api.Rat{"1", x}, []api.Rat{x, "1", "1"})
	}
	for _, b := range lists {
		for _, a := range [][][]api.Rat{filled(1, 1, "1"), filled(2, 2, "0"), rows("1 0; 0 1"), filled(3, 2, "1"), filled(2, 3, "1"), filled(12, 12, "1")} {
			expect(t, b, api.ErrArg, vector(Solve(a, b)), fit(Fit(a, b)))
		}
	}
}

// Section Errors: sizes that do not fit come ahead of what is singular.
func TestSizesThatDoNotFit(t *testing.T) {
	for _, size := range [][2]int{{1, 2}, {2, 1}, {3, 2}, {11, 12}, {12, 1}} {
		a := filled(size[0], size[1], "0")
		expect(t, size, api.ErrMismatch, number(Det(a)), matrix(Inverse(a)), matrix(Mul(a, a)))
		for n := 1; n <= api.MaxSize; n++ {
			b := filled(1, n, "1")[0]
			expect(t, size, api.ErrMismatch, vector(Solve(a, b)))
			if n != size[0] {
				expect(t, size, api.ErrMismatch, fit(Fit(a, b)))
			}
			if n != size[1] {
				expect(t, size, api.ErrMismatch, matrix(Mul(a, filled(n, 2, "1"))))
			}
		}
	}
	for _, b := range [][]api.Rat{{"1"}, {"1", "2", "3"}} {
		for _, a := range [][][]api.Rat{rows("1 0; 0 1"), filled(2, 2, "0")} {
			expect(t, b, api.ErrMismatch, vector(Solve(a, b)), fit(Fit(a, b)))
		}
	}
}

// Section Errors: also where there are solutions, but several.
func TestSingular(t *testing.T) {
	for _, s := range []string{"0", "0 0; 0 0", "1 2; 2 4", "0 1; 0 1", "1 0; 1 0", "1 2 3; 4 5 6; 7 8 9", "1/2 1/3 5/6; 1 0 1; 0 1/7 1/7"} {
		a := rows(s)
		expect(t, s, api.ErrSingular, matrix(Inverse(a)))
		for _, x := range []api.Rat{"0", "1"} {
			b := filled(1, len(a), x)[0]
			expect(t, s, api.ErrSingular, vector(Solve(a, b)), fit(Fit(a, b)))
		}
	}
	for _, s := range []string{"1 2", "0 0 1", "1 2 3; 4 5 6", "0; 0", "1 2; 2 4; 3 6", "1 0; 2 0; 3 0", "1 1 2; 1 0 1; 1 5 6; 2 3 5"} {
		a := rows(s)
		expect(t, s, api.ErrSingular, fit(Fit(a, filled(1, len(a), "1")[0])))
	}
}

// askAll calls every function.
func askAll(a, b [][]api.Rat, l []api.Rat) []answer {
	return []answer{{Error: Check(a)}, matrix(Mul(a, b)), matrix(Transpose(a)), number(Det(a)), count(Rank(a)), vector(Solve(a, l)), matrix(Inverse(a)), fit(Fit(a, l))}
}

// The chapter, DOC section Rules: arguments are not changed, and neither they nor other rows of a result are when a row of a result changes.
func TestMemoryIsNotShared(t *testing.T) {
	source := rand.New(rand.NewSource(10))
	for _, a := range [][][]*big.Rat{random(source, 3, 3, kinds[2]), random(source, 1, 1, kinds[3]), random(source, 12, 12, kinds[1]), {{big.NewRat(1, 1), new(big.Rat)}, {new(big.Rat), big.NewRat(1, 1)}}} {
		first, second, l := texts(a), texts(turned(a)), list(a[0])
		for i, got := range askAll(first, second, l) {
			if got.Error != api.OK {
				t.Errorf("answer %d for %v is the error %d", i, texts(a), got.Error)
			}
			for k, row := range got.Rows {
				if slices.Contains(row, "changed") {
					t.Errorf("row %d of answer %d shares memory", k, i)
				}
				overwrite(row)
			}
			overwrite(got.List)
			if !reflect.DeepEqual(first, texts(a)) || !reflect.DeepEqual(second, texts(turned(a))) || !slices.Equal(l, list(a[0])) {
				t.Fatalf("answer %d has changed the arguments", i)
			}
		}
		kept := askAll(first, second, l)
		again := askAll(texts(a), texts(turned(a)), list(a[0]))
		for i := range first {
			overwrite(first[i])
			overwrite(second[i])
		}
		overwrite(l)
		if !reflect.DeepEqual(kept, again) {
			t.Errorf("results for %v have changed", texts(a))
		}
	}
}

// overwrite changes all of the memory of a list.
func overwrite(l []api.Rat) {
	l = l[:cap(l)]
	for i := range l {
		l[i] = "changed"
	}
}

// DOC P2, P3: calls at once, and in any order, return what calls alone return.
func TestCallsAtOnce(t *testing.T) {
	matrices := append(small(rand.New(rand.NewSource(11)), 3), ofRank(rand.New(rand.NewSource(12)), 12, 12, 12))
	ask := func(i int) []answer {
		return askAll(texts(matrices[i]), texts(turned(matrices[i])), list(turned(matrices[i])[0]))
	}
	alone := make([][]answer, len(matrices))
	for i := range matrices {
		alone[i] = ask(i)
	}
	var group sync.WaitGroup
	for range 4 {
		group.Go(func() {
			for i := len(matrices) - 1; i >= 0; i-- {
				if again := ask(i); !reflect.DeepEqual(again, alone[i]) {
					t.Errorf("%v: %v and %v", texts(matrices[i]), again, alone[i])
				}
			}
		})
	}
	group.Wait()
}
