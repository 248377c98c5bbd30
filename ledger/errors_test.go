package ledger

import (
	"slices"
	"strconv"
	"strings"
	"sync"
	"testing"

	"garboard/api"
)

// none are strings that are no numbers.
var none = []api.Rat{"", "-0", "2/4", "1.5", "01", "1/0", "4/1", "x", "\xff", "123456789012345678901234567890/246913578024691357802469135780"}

// expectOwn checks that all functions but Check have an error, and nothing else, for arguments of their own.
func expectOwn(t *testing.T, l []api.Weight, want api.Errno, w api.Weight, name string, by api.Vector, number api.Rat) {
	t.Helper()
	mass, moment, e := Total(l)
	if mass != "" || moment != (api.Vector{}) || e != want {
		t.Errorf("%v: the total %s, %v and the error %d instead of %d", l, mass, moment, e, want)
	}
	if centre, e := Centre(l); centre != (api.Vector{}) || e != want {
		t.Errorf("%v: the centre %v and the error %d instead of %d", l, centre, e, want)
	}
	expectList(t, l, want)(Add(l, w))
	expectList(t, l, want)(Remove(l, name))
	expectList(t, l, want)(Move(l, name, by))
	expectList(t, l, want)(Scale(l, number))
	if aft, e := Aft(l, number); aft != "" || e != want {
		t.Errorf("%v: aft %s and the error %d instead of %d", l, aft, e, want)
	}
}

func expectList(t *testing.T, what any, want api.Errno) func([]api.Weight, api.Errno) {
	t.Helper()
	return func(got []api.Weight, e api.Errno) {
		t.Helper()
		if len(got) > 0 || e != want {
			t.Errorf("%v: %v and the error %d instead of %d", what, got, e, want)
		}
	}
}

// expectFault checks that all functions have the fault of a list, with arguments that are right, and with such that are not.
func expectFault(t *testing.T, l []api.Weight, want api.Errno) {
	t.Helper()
	if got := Check(l); got != want {
		t.Errorf("%v: the error %d instead of %d", l, got, want)
	}
	expectOwn(t, l, want, weights("new 1 1 1 1 0 2")[0], "hull", point("1 2 3"), "2")
	expectOwn(t, l, want, api.Weight{Name: "+"}, "no", point("x 0 0"), "")
}

// fault is a fault of a weight, and how a weight gets it.
type fault struct {
	e   api.Errno
	set func(*api.Weight)
}

// faults are in the order in which they are looked for. A weight that gets several of them gets the last one first.
var faults = []fault{
	{api.ErrName, func(w *api.Weight) { w.Name = "a b" }},
	{api.ErrArg, func(w *api.Weight) { w.Mass = "2/4" }},
	{api.ErrArg, func(w *api.Weight) { w.Centre.X = "-0" }},
	{api.ErrArg, func(w *api.Weight) { w.Centre.Y = "" }},
	{api.ErrArg, func(w *api.Weight) { w.Centre.Z = "1.5" }},
	{api.ErrArg, func(w *api.Weight) { w.From = "x" }},
	{api.ErrArg, func(w *api.Weight) { w.To = "01" }},
	{api.ErrRange, func(w *api.Weight) { w.Mass = "-1" }},
	{api.ErrRange, func(w *api.Weight) { w.To = w.From }},
	{api.ErrMismatch, func(w *api.Weight) { w.Centre.X = "3" }},
	{api.ErrTwice, func(w *api.Weight) { w.Name = "hull" }},
}

// P24.1: of all combinations of faults the first one counts.
func TestFaultsInOrder(t *testing.T) {
	for set := 1; set < 1<<len(faults); set++ {
		w, want := weights("crane 10 8 1 4 7 9")[0], api.OK
		for i, f := range slices.Backward(faults) {
			if set>>i&1 == 1 {
				f.set(&w)
				want = f.e
			}
		}
		if got := Check([]api.Weight{example()[0], w}); got != want {
			t.Errorf("the faults %b: the error %d instead of %d", set, got, want)
		}
	}
}

// P24.1, section Errors: of two weights with faults the first one counts, in all functions.
func TestFaultsOfAllFunctions(t *testing.T) {
	for _, f := range faults {
		for _, g := range faults {
			l := weights("hull 30 5 0 1 0 10, crane 10 8 1 4 7 9, boat 10 8 1 4 7 9, stores 1 1 1 1 0 2")
			f.set(&l[1])
			g.set(&l[3])
			expectFault(t, l, f.e)
		}
	}
	expectFault(t, []api.Weight{{}}, api.ErrName)
	expectFault(t, []api.Weight{{Name: "-"}}, api.ErrArg)
}

// P24.1: a name that stands twice counts before the faults of later weights, and behind those of earlier ones.
func TestTwice(t *testing.T) {
	for list, want := range map[string]api.Errno{
		"a 1 1 0 0 0 2, a 1 1 0 0 0 2":                                 api.ErrTwice,
		"a 1 1 0 0 0 2, b 1 1 0 0 0 2, a 2 4 0 0 3 5":                  api.ErrTwice,
		"a 1 1 0 0 0 2, A 1 1 0 0 0 2, a. 2 4 0 0 3 5, aa 1 1 0 0 0 2": api.OK,
		"a 1 1 0 0 0 2, b 1 1 0 0 0 2, b 1 1 0 0 0 2, c 1 x 0 0 0 2":   api.ErrTwice,
		"a 1 1 0 0 0 2, b 1 x 0 0 0 2, a 1 1 0 0 0 2":                  api.ErrArg,
		"a 1 1 0 0 0 2, b_ 1 x 0 0 0 2, a 1 1 0 0 0 2":                 api.ErrName,
		"a 1 1 0 0 0 2, a 1 2 0 0 0 2":                                 api.ErrMismatch,
		"a 1 1 0 0 0 2, a 1 1 0 0 2 0":                                 api.ErrRange,
	} {
		if want == api.OK {
			if got := Check(weights(list)); got != api.OK {
				t.Errorf("%s: the error %d", list, got)
			}
			continue
		}
		expectFault(t, weights(list), want)
	}
}

// P24.1: each byte alone, and in a name; lengths.
func TestNames(t *testing.T) {
	permitted := "ABCDEFGHIJKLMNOPQRSTUVWXYZabcdefghijklmnopqrstuvwxyz0123456789-."
	names := map[string]bool{"": false, "ä": false, "...": true, strings.Repeat("-", api.MaxName): true, strings.Repeat("a", api.MaxName+1): false}
	for b := range 256 {
		one := string([]byte{byte(b)})
		isPermitted := strings.IndexByte(permitted, byte(b)) >= 0
		names[one], names["a"+one], names[one+"-"] = isPermitted, isPermitted, isPermitted
	}
	for name, isName := range names {
		w := example()[0]
		w.Name = name
		want := api.ErrName
		if isName {
			want = api.OK
		}
		if got := Check([]api.Weight{w}); got != want {
			t.Errorf("%q: the error %d instead of %d", name, got, want)
		}
	}
}

// P24.1: numbers that are not valid, at each place.
func TestNumbersOfWeights(t *testing.T) {
	for _, number := range none {
		for place := range 6 {
			l := example()
			w := &l[1]
			*[]*api.Rat{&w.Mass, &w.Centre.X, &w.Centre.Y, &w.Centre.Z, &w.From, &w.To}[place] = number
			expectFault(t, l, api.ErrArg)
		}
	}
}

// P24.1: masses, ends and middles just in and just out of range.
func TestRanges(t *testing.T) {
	for list, want := range map[string]api.Errno{
		"a 0 1 0 0 0 2":                    api.OK,
		"a -1/1000000000000 1 0 0 0 2":     api.ErrRange,
		"a 1 1/2000000 0 0 0 1/1000000":    api.OK,
		"a 1 0 0 0 0 0":                    api.ErrRange,
		"a 1 1 0 0 2 0":                    api.ErrRange,
		"a 1 -2 0 0 -1 -3":                 api.ErrRange,
		"a 1 -2 0 0 -3 -1":                 api.OK,
		"a 1 1000001/1000000 0 0 0 2":      api.ErrMismatch,
		"a 1 0 0 0 0 2":                    api.ErrMismatch,
		"a 0 2 0 0 0 2":                    api.ErrMismatch,
		"a 1 7/12 -100 -100 1/3 5/6":       api.OK,
		"a 1 7/6 -100 -100 1/3 5/6":        api.ErrMismatch,
		"hull 1 1 0 0 0 2, b -1 x 0 0 0 2": api.ErrArg,
	} {
		if got := Check(weights(list)); got != want {
			t.Errorf("%s: the error %d instead of %d", list, got, want)
		}
	}
}

// P24.1, section Errors: too many weights come ahead of their faults.
func TestTooManyWeights(t *testing.T) {
	expectFault(t, make([]api.Weight, api.MaxWeights+1), api.ErrTooLarge)
	expectFault(t, slices.Repeat(example(), api.MaxWeights), api.ErrTooLarge)
	expectFault(t, make([]api.Weight, api.MaxWeights), api.ErrName)
	expectFault(t, slices.Repeat(example(), api.MaxWeights/2), api.ErrTwice)
}

// Section Errors: a full list comes ahead of the faults of a new weight.
func TestErrorsOfAdd(t *testing.T) {
	l := lists()
	full := l[len(l)-1]
	for _, w := range append(example(), api.Weight{}, full[3]) {
		expectList(t, w, api.ErrFull)(Add(full, w))
	}
	for _, f := range faults {
		w := weights("crane 10 8 1 4 7 9")[0]
		f.set(&w)
		expectList(t, w, f.e)(Add(example()[:1], w))
	}
	expectList(t, "twice", api.ErrTwice)(Add(example(), example()[1]))
	expectList(t, "last", api.ErrTwice)(Add(full[:api.MaxWeights-1], full[0]))
}

// Section Errors: names that are not there, and such that are none.
func TestNamesThatAreNotFound(t *testing.T) {
	for _, name := range []string{"", "Hull", "hul", "hulls", "hull ", "\xff", "+", strings.Repeat("a", 1000)} {
		expectList(t, name, api.ErrNotFound)(Remove(example(), name))
		expectList(t, name, api.ErrNotFound)(Remove(nil, name))
		expectList(t, name, api.ErrNotFound)(Move(example(), name, point("1 0 0")))
		expectList(t, name, api.ErrArg)(Move(example(), name, point("1 0 2/4")))
	}
}

// Section Errors: numbers that are not valid, at each place; factors that are negative.
func TestNumbersOfCalls(t *testing.T) {
	for _, x := range none {
		for _, by := range []api.Vector{{X: x, Y: "0", Z: "0"}, {X: "0", Y: x, Z: "0"}, {X: "0", Y: "0", Z: x}} {
			expectList(t, by, api.ErrArg)(Move(example(), "hull", by))
		}
		expectList(t, x, api.ErrArg)(Scale(example(), x))
		expectList(t, x, api.ErrArg)(Scale(nil, x))
		if got, e := Aft(nil, x); got != "" || e != api.ErrArg {
			t.Errorf("%q: %s, %d", x, got, e)
		}
		if got, e := Aft(example(), x); got != "" || e != api.ErrArg {
			t.Errorf("%q: %s, %d", x, got, e)
		}
	}
	for _, x := range []api.Rat{"-1", "-1/1000000000000", "-100000000000000000000"} {
		expectList(t, x, api.ErrRange)(Scale(example(), x))
		expectList(t, x, api.ErrRange)(Scale(nil, x))
	}
}

// answer is what all functions return for a list.
type answer struct {
	total        sums
	centre       api.Vector
	aft          api.Rat
	more, less   string
	moved, times string
}

func words(l []api.Weight) string {
	var out strings.Builder
	for _, w := range l {
		for _, x := range []api.Rat{api.Rat(w.Name), w.Mass, w.Centre.X, w.Centre.Y, w.Centre.Z, w.From, w.To} {
			out.WriteString(strconv.Quote(string(x)))
		}
	}
	return out.String()
}

func askAll(l []api.Weight) answer {
	var out answer
	name := ""
	if len(l) > 0 {
		name = l[len(l)/2].Name
	}
	out.total.mass, out.total.moment, _ = Total(l)
	out.centre, _ = Centre(l)
	out.aft, _ = Aft(l, "7/3")
	more, _ := Add(l, weights("new 1 1 1 1 0 2")[0])
	less, _ := Remove(l, name)
	moved, _ := Move(l, name, point("1 2 3"))
	times, _ := Scale(l, "2/3")
	out.more, out.less, out.moved, out.times = words(more), words(less), words(moved), words(times)
	return out
}

// DOC P2, P3, section Rules: calls at once, and in any order, return what calls alone return, and change no arguments.
func TestCallsAtOnce(t *testing.T) {
	var alone []answer
	l := lists()
	for _, list := range l {
		before := slices.Clone(list)
		alone = append(alone, askAll(list))
		if !slices.Equal(before, list) {
			t.Errorf("%v has become %v", before, list)
		}
	}
	var group sync.WaitGroup
	for range 4 {
		group.Go(func() {
			for i, want := range slices.Backward(alone) {
				if again := askAll(l[i]); again != want {
					t.Errorf("%v and %v", again, want)
				}
			}
		})
	}
	group.Wait()
}

// DOC, section Rules: results share no memory with arguments, also if these have room behind their end.
func TestMemory(t *testing.T) {
	l := append(make([]api.Weight, 0, 100), example()...)
	results := [][]api.Weight{
		need[[]api.Weight](t)(Add(l, weights("a 1 1 1 1 0 2")[0])),
		need[[]api.Weight](t)(Add(l, weights("b 1 1 1 1 0 2")[0])),
		need[[]api.Weight](t)(Remove(l, "crane")),
		need[[]api.Weight](t)(Remove(l, "hull")),
		need[[]api.Weight](t)(Move(l, "hull", point("0 0 0"))),
		need[[]api.Weight](t)(Scale(l, "1")),
	}
	var before []string
	for _, result := range results {
		before = append(before, words(result))
	}
	for i := range l[:cap(l)] {
		l[:cap(l)][i] = api.Weight{Name: "changed"}
	}
	for i, result := range results {
		if words(result) != before[i] {
			t.Errorf("result %d has become %v", i, result)
		}
		clear(result)
	}
	if l[0].Name != "changed" || l[1].Name != "changed" {
		t.Errorf("%v", l)
	}
}
