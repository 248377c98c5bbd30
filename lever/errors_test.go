package lever

import (
	"slices"
	"sync"
	"testing"

	"garboard/api"
)

// none are strings that are no numbers.
var none = []api.Rat{"", "-0", "2/4", "1.5", "01", "1/0", "4/1", "x", "\xff", "123456789012345678901234567890/246913578024691357802469135780"}

// farHalvings are out of range.
var farHalvings = []int{-1, api.MaxHalvings + 1, -1 << 63, 1<<63 - 1}

// expectAt checks that At has an error, and nothing else; so have a curve with this heel, and its verification, with numbers of levers that are right or not.
func expectAt(t *testing.T, x trial, a api.Attitude, k int, want api.Errno) {
	t.Helper()
	if got, e := At(x.s, x.c, a, k); got != (api.Lever{}) || e != want {
		t.Errorf("%v at %v, %d halvings: %v and the error %d instead of %d", x.c, a, k, got, e, want)
	}
	expectCurve(t, x, []api.Rat{a.Heel}, a.Trim, k, want)
	for _, l := range []api.Lever{levers("0 3/4 3/2 0 0 0 0 5/8 5/8"), {}, levers("0 x x x x x x x x")} {
		l.Heel = a.Heel
		if e := Verify(x.s, x.c, a.Trim, k, l); e != want {
			t.Errorf("%v at %v, %d halvings: %v has the error %d instead of %d", x.c, a, k, l, e, want)
		}
	}
}

func expectCurve(t *testing.T, x trial, heels []api.Rat, trim api.Rat, k int, want api.Errno) {
	t.Helper()
	if got, e := Curve(x.s, x.c, heels, trim, k); len(got) > 0 || e != want {
		t.Errorf("%v at %v, the trim %s, %d halvings: %v and the error %d instead of %d", x.c, heels, trim, k, got, e, want)
	}
}

func expectArea(t *testing.T, l, m api.Lever, trim api.Rat, want api.Errno) {
	t.Helper()
	if got, e := Area(l, m, trim); got != (api.Interval{}) || e != want {
		t.Errorf("from %v to %v, the trim %s: %v and the error %d instead of %d", l, m, trim, got, e, want)
	}
}

func expectBalance(t *testing.T, x trial, heel api.Rat, trims [2]api.Rat, k, n int, want api.Errno) {
	t.Helper()
	if got, e := Balance(x.s, x.c, heel, trims, k, n); got != (api.Interval{}) || e != want {
		t.Errorf("%v at %s and %v, %d and %d halvings: %v and the error %d instead of %d", x.c, heel, trims, k, n, got, e, want)
	}
}

// floating is the example, which has no fault.
func floating(t *testing.T) trial {
	t.Helper()
	return trial{example(t), exampleCondition()}
}

// sunk are conditions of the example that weigh nothing, or too much.
func sunk(t *testing.T) []trial {
	t.Helper()
	var out []trial
	for _, load := range []string{"", "hull 0 5 0 1 0 10", "; A 0", "hull 120000000001/1000000000 5 0 1 0 10", "hull 117 5 0 1 0 10; A 4", "hull 120 5 0 1 0 10; A 1/1000000000 frozen"} {
		out = append(out, trial{example(t), loaded(load)})
	}
	return out
}

// faulty are crafts and conditions with faults, and such of both; the displaced volume of some would be out of range, too.
func faulty(t *testing.T) map[api.Errno][]trial {
	t.Helper()
	open, heavy, twice := example(t), example(t), example(t)
	open.Hull = open.Hull[1:]
	heavy.Density = "0"
	twice.Tanks = append(twice.Tanks, twice.Tanks[0])
	return map[api.Errno][]trial{
		api.ErrMismatch: {{api.Craft{}, api.Condition{}}, {open, exampleCondition()}, {heavy, loaded("? 1 1 1 1 0 2")}, {twice, loaded("; A 1, A 1")}, {example(t), loaded("hull 500 5 0 1 0 11")}},
		api.ErrName:     {{example(t), loaded("a_b 30 5 0 1 0 10")}},
		api.ErrArg:      {{example(t), loaded("hull 30 5 0 x 0 10")}, {example(t), loaded("hull 30 5 0 1 0 10; A x")}},
		api.ErrRange:    {{example(t), loaded("hull -30 5 0 1 0 10")}, {example(t), loaded("hull 30 5 0 1 0 10; A 5")}},
		api.ErrTwice:    {{example(t), loaded("a 1 1 1 1 0 2, a 1 1 1 1 0 2")}, {example(t), loaded("; A 1, A 1")}},
		api.ErrNotFound: {{example(t), loaded("hull 30 5 0 1 0 10; B 1")}, {example(t), loaded("; a 0")}},
		api.ErrTooLarge: {{example(t), api.Condition{Weights: make([]api.Weight, api.MaxWeights+1)}}, {example(t), api.Condition{Fillings: make([]api.Filling, api.MaxTanks+1)}}},
	}
}

// Section Errors: faults of crafts and conditions come ahead of all others, but for those of the list of heels.
func TestFaults(t *testing.T) {
	for want, l := range faulty(t) {
		for _, x := range l {
			for _, a := range []api.Attitude{at("0 0"), at("x 0"), at("0 2"), {}} {
				expectAt(t, x, a, 2, want)
				expectAt(t, x, a, -1, want)
				expectBalance(t, x, a.Heel, [2]api.Rat{a.Trim, "1/8"}, 2, 2, want)
				expectBalance(t, x, a.Heel, [2]api.Rat{"1/8", a.Trim}, 25, 25, want)
			}
			expectCurve(t, x, rats("0 2 x"), "0", 2, want)
			expectCurve(t, x, rats("1/2 1/2 0"), "0", 2, want)
			expectCurve(t, x, nil, "x", -1, api.ErrEmpty)
			expectCurve(t, x, make([]api.Rat, api.MaxHeels+1), "x", -1, api.ErrTooLarge)
		}
	}
}

// Section Errors: the number of heels comes ahead of everything else.
func TestNumberOfHeels(t *testing.T) {
	x := floating(t)
	expectCurve(t, x, nil, "0", 2, api.ErrEmpty)
	expectCurve(t, x, []api.Rat{}, "", 99, api.ErrEmpty)
	expectCurve(t, x, append(mostHeels(), "1"), "0", 2, api.ErrTooLarge)
	expectCurve(t, x, make([]api.Rat, 10000), "", 99, api.ErrTooLarge)
	expectCurve(t, x, make([]api.Rat, api.MaxHeels), "0", 2, api.ErrArg)
	for _, y := range sunk(t) {
		expectCurve(t, y, nil, "0", 2, api.ErrEmpty)
		expectCurve(t, y, append(mostHeels(), "1"), "0", 2, api.ErrTooLarge)
	}
}

// Section Errors: numbers that are not valid come ahead of such that are out of range, and ahead of the displaced volume.
func TestNumbersThatAreNotValid(t *testing.T) {
	for i, number := range none {
		for _, x := range []trial{floating(t), sunk(t)[i%6]} {
			for _, other := range []api.Rat{"0", "2", "-1/3", number} {
				for _, k := range []int{2, -1} {
					expectAt(t, x, api.Attitude{Heel: number, Trim: other}, k, api.ErrArg)
					expectAt(t, x, api.Attitude{Heel: other, Trim: number}, k, api.ErrArg)
					expectCurve(t, x, []api.Rat{"1/2", other, number}, "0", k, api.ErrArg)
					expectCurve(t, x, []api.Rat{number, "1/2", other}, "7", k, api.ErrArg)
					expectCurve(t, x, []api.Rat{other, "1/2"}, number, k, api.ErrArg)
					expectBalance(t, x, number, [2]api.Rat{other, "1/8"}, k, 2, api.ErrArg)
					expectBalance(t, x, other, [2]api.Rat{number, "1/8"}, k, 2, api.ErrArg)
					expectBalance(t, x, other, [2]api.Rat{"1/8", number}, 2, k, api.ErrArg)
				}
			}
		}
	}
}

// Section Errors: attitudes and halvings out of range, and displaced volumes.
func TestOutOfRange(t *testing.T) {
	for _, x := range append(sunk(t)[2:4], floating(t)) {
		for _, a := range []string{"2 0", "-2 0", "1000000000000000000001/1000000000000000000000 0", "-9/8 1/2", "0 1", "0 -1", "1 501/1000", "-1 -501/1000"} {
			expectAt(t, x, at(a), 2, api.ErrRange)
			expectBalance(t, x, at(a).Heel, [2]api.Rat{at(a).Trim, "3/4"}, 2, 2, api.ErrRange)
			expectBalance(t, x, at(a).Heel, [2]api.Rat{"-3/4", at(a).Trim}, 2, 2, api.ErrRange)
		}
		for _, k := range farHalvings {
			expectAt(t, x, at("1/2 1/3"), k, api.ErrRange)
			expectBalance(t, x, "0", pair("-1/8 1/8"), k, 2, api.ErrRange)
			expectBalance(t, x, "0", pair("-1/8 1/8"), 2, k, api.ErrRange)
		}
		expectCurve(t, x, rats("-1 0 1 9/8"), "0", 2, api.ErrRange)
		expectCurve(t, x, rats("-9/8 0"), "0", 2, api.ErrRange)
	}
	for _, x := range sunk(t) {
		for _, a := range attitudes() {
			expectAt(t, x, a, 2, api.ErrRange)
			expectBalance(t, x, a.Heel, pair("-1/8 1/8"), 2, 2, api.ErrRange)
		}
	}
}

// Section Errors: the order of heels comes behind attitudes and halvings out of range, and ahead of the displaced volume.
func TestOrderOfHeels(t *testing.T) {
	for _, x := range append(sunk(t), floating(t)) {
		for _, heels := range []string{"0 0", "1 -1", "-1 0 1/3 333333333333/1000000000000", "1/2 1/3 1/4", "-1 0 1/2 1/2", "0 0 1"} {
			expectCurve(t, x, rats(heels), "1/3", 2, api.ErrOrder)
			expectCurve(t, x, rats(heels), "3/5", 2, api.ErrRange)
			expectCurve(t, x, rats(heels), "1/3", 25, api.ErrRange)
			expectCurve(t, x, rats(heels+" 5"), "1/3", 2, api.ErrRange)
			expectCurve(t, x, rats(heels+" 5 x"), "1/3", 25, api.ErrArg)
		}
	}
}

// Section Errors: other numbers of levers that are not valid come behind the errors of At, and ahead of levers that are not right.
func TestNumbersOfVerifiedLevers(t *testing.T) {
	x := floating(t)
	l := levers("0 3/4 3/2 0 0 0 0 5/8 5/8")
	for _, number := range none {
		for i := range places(&l) {
			for _, m := range []api.Lever{l, levers("1/2 1 2 3 4 5 6 7 8"), levers("0 2 1 2 1 2 1 2 1")} {
				*places(&m)[i] = number
				if e := Verify(x.s, x.c, "0", 2, m); e != api.ErrArg {
					t.Errorf("%v: the error %d", m, e)
				}
				for _, y := range sunk(t)[:2] {
					if e := Verify(y.s, y.c, "0", 2, m); e != api.ErrRange {
						t.Errorf("%v, %v: the error %d", y.c, m, e)
					}
				}
			}
		}
	}
	for _, wrong := range []string{"0 3/2 3/4 0 0 0 0 5/8 5/8", "0 1 2 0 0 0 0 5/8 5/8", "1/2 3/4 3/2 0 0 0 0 5/8 5/8", "0 0 0 0 0 0 0 0 0"} {
		if e := Verify(x.s, x.c, "0", 2, levers(wrong)); e != api.ErrProof {
			t.Errorf("%s: the error %d", wrong, e)
		}
	}
	if e := Verify(x.s, x.c, "0", 2, l); e != api.OK {
		t.Errorf("%v: the error %d", l, e)
	}
}

// Section Errors: of Area: any number of both levers, ranges, and the order of heels.
func TestErrorsOfArea(t *testing.T) {
	l, m := levers("-1/2 3/4 3/2 0 0 0 0 5/8 5/8"), levers("1/2 1 2 3 4 5 6 7 8")
	for _, number := range none {
		for _, trim := range []api.Rat{"0", "2", number} {
			for i := range places(&l) {
				wrong, far := l, levers("2 1 2 3 4 5 6 7 8")
				*places(&wrong)[i] = number
				expectArea(t, wrong, m, trim, api.ErrArg)
				expectArea(t, m, wrong, trim, api.ErrArg)
				expectArea(t, far, wrong, trim, api.ErrArg)
			}
			wrong := l
			wrong.Heel = number
			expectArea(t, wrong, m, trim, api.ErrArg)
			expectArea(t, m, wrong, trim, api.ErrArg)
		}
		expectArea(t, l, m, number, api.ErrArg)
		expectArea(t, m, l, number, api.ErrArg)
		expectArea(t, levers("2 0 0 0 0 0 0 0 0"), l, number, api.ErrArg)
	}
	for _, trim := range []api.Rat{"1", "-1", "501/1000", "-501/1000"} {
		expectArea(t, l, m, trim, api.ErrRange)
		expectArea(t, m, l, trim, api.ErrRange)
	}
	for _, far := range []string{"2 0 0 0 0 0 0 0 0", "-2 0 0 0 0 0 0 0 0", "1000000000000000000001/1000000000000000000000 0 0 0 0 0 0 0 0"} {
		expectArea(t, l, levers(far), "0", api.ErrRange)
		expectArea(t, levers(far), l, "0", api.ErrRange)
	}
	expectArea(t, m, l, "0", api.ErrOrder)
	expectArea(t, levers("1/3 0 0 0 0 0 0 0 0"), levers("333333333333/1000000000000 0 0 0 0 0 0 0 0"), "1/2", api.ErrOrder)
	expectArea(t, levers("1 0 0 0 0 0 0 0 0"), levers("-1 0 0 0 0 0 0 0 0"), "-1/2", api.ErrOrder)
	expectArea(t, api.Lever{}, api.Lever{}, "", api.ErrArg)
}

// Section Errors: of Balance: both ends have to be in order, their signs sure, and opposite.
func TestErrorsOfBalance(t *testing.T) {
	x := trial{example(t), loaded("hull 40 5 0 1 0 10")}
	for _, trims := range []string{"0 0", "1/8 -1/8", "1/3 333333333333/1000000000000", "1/2 -1/2"} {
		expectBalance(t, x, "0", pair(trims), 2, 2, api.ErrRange)
	}
	for _, n := range []int{0, 2, api.MaxHalvings} {
		expectBalance(t, x, "0", pair("-1/8 1/8"), 0, n, api.ErrUndecided)
		expectBalance(t, x, "0", pair("0 1/8"), 8, n, api.ErrUndecided)
		expectBalance(t, x, "0", pair("-1/8 0"), 8, n, api.ErrUndecided)
		expectBalance(t, x, "0", pair("1/8 1/4"), 8, n, api.ErrMismatch)
		expectBalance(t, x, "0", pair("-1/4 -1/8"), 8, n, api.ErrMismatch)
	}
}

// answer is what all functions return for a condition at an attitude.
type answer struct {
	at, last      api.Lever
	verified      api.Errno
	area, balance api.Interval
}

func askAll(x trial, i int) answer {
	var out answer
	a := attitudes()[i%8]
	out.at, _ = At(x.s, x.c, a, 2)
	out.verified = Verify(x.s, x.c, a.Trim, 2, out.at)
	l, _ := Curve(x.s, x.c, rats("-1/3 1/7"), a.Trim, 1)
	out.last = l[1]
	out.area, _ = Area(l[0], l[1], a.Trim)
	out.balance, _ = Balance(x.s, x.c, "0", pair("-1/2 1/2"), 3, 2)
	return out
}

// DOC P2, P3, section Rules: calls at once, and in any order, return what calls alone return, and change no arguments.
func TestCallsAtOnce(t *testing.T) {
	l := trials(t)
	var alone []answer
	for i, x := range l {
		hull, weights, fillings := slices.Clone(x.s.Hull), slices.Clone(x.c.Weights), slices.Clone(x.c.Fillings)
		alone = append(alone, askAll(x, i))
		if !slices.Equal(hull, x.s.Hull) || !slices.Equal(weights, x.c.Weights) || !slices.Equal(fillings, x.c.Fillings) {
			t.Errorf("trial %d has become %v", i, x)
		}
	}
	var group sync.WaitGroup
	for range 4 {
		group.Go(func() {
			for i, want := range slices.Backward(alone) {
				if again := askAll(l[i], i); again != want {
					t.Errorf("%v and %v", again, want)
				}
			}
		})
	}
	group.Wait()
}

// DOC, section Rules: the heels and the ends that are given stay as they are, and curves that were returned do, too.
func TestMemory(t *testing.T) {
	x, heels, trims := floating(t), rats("-1/2 0 1/2"), pair("-1/3 1/2")
	first := need[[]api.Lever](t)(Curve(x.s, x.c, heels, "0", 1))
	before := slices.Clone(first)
	if !slices.Equal(heels, rats("-1/2 0 1/2")) {
		t.Errorf("the heels have become %v", heels)
	}
	heels[0] = "-1"
	second := need[[]api.Lever](t)(Curve(x.s, x.c, heels, "0", 1))
	clear(second)
	if !slices.Equal(first, before) {
		t.Errorf("%v has become %v", before, first)
	}
	ahead := loaded("hull 40 6 0 1 5 7")
	if got := need[api.Interval](t)(Balance(x.s, ahead, "0", trims, 8, 3)); trims != pair("-1/3 1/2") || got.Lo == "-1/3" {
		t.Errorf("%v, the ends have become %v", got, trims)
	}
}
