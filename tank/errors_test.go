package tank

import (
	"slices"
	"strconv"
	"strings"
	"sync"
	"testing"

	"garboard/api"
)

// none are strings that are no numbers.
var none = []api.Rat{"", "-0", "2/4", "1.5", "01", "1/0", "4/1", "x", "\xff", "123456789012345678901234567890/246913578024691357802469135780"}

// expect checks that there is nothing but an error.
func expect[T comparable](t *testing.T, what any, want api.Errno) func(T, api.Errno) {
	t.Helper()
	return func(got T, e api.Errno) {
		t.Helper()
		var zero T
		if got != zero || e != want {
			t.Errorf("%v: %v and the error %d instead of %d", what, got, e, want)
		}
	}
}

// expectTank calls all functions with a tank that has a fault; what else they are given is wrong, too, in half of the calls.
func expectTank(t *testing.T, x api.Tank, want api.Errno) {
	t.Helper()
	if got := Check(x); got != want {
		t.Errorf("%v: the error %d instead of %d", x, got, want)
	}
	if got := List([]api.Tank{example(t), x, {}}); got != want {
		t.Errorf("%v in a list: the error %d instead of %d", x, got, want)
	}
	expect[api.Rat](t, x, want)(Capacity(x))
	expect[api.Rat](t, x, want)(Volume(x, at("0 0"), "1"))
	expect[api.Rat](t, x, want)(Volume(x, at("7 x"), ""))
	for _, heights := range [][]api.Rat{nil, numbers("0 1"), numbers("1 0 x"), make([]api.Rat, api.MaxList+1)} {
		if l, e := Table(x, heights); len(l) > 0 || e != want {
			t.Errorf("%v: the table %v, and the error %d instead of %d", x, l, e, want)
		}
	}
}

// fault is a fault of a tank, and how a tank gets it.
type fault struct {
	e   api.Errno
	set func(*api.Tank)
}

// faults are in the order in which they are looked for. A tank that gets several of them gets the last one first.
func faults(t *testing.T) []fault {
	t.Helper()
	return []fault{
		{api.ErrName, func(x *api.Tank) { x.Name = "No 1" }},
		{api.ErrEmpty, func(x *api.Tank) { x.Space = nil }},
		{api.ErrTooLarge, func(x *api.Tank) { x.Space = slices.Repeat(x.Space, 60) }},
		{api.ErrArg, func(x *api.Tank) { x.Space = slices.Clone(x.Space); x.Space[1][2].Y = "2/4" }},
		{api.ErrArg, func(x *api.Tank) { x.Permeability = "-2/4" }},
		{api.ErrArg, func(x *api.Tank) { x.Density = "" }},
		{api.ErrRange, func(x *api.Tank) { x.Permeability = "10/9" }},
		{api.ErrRange, func(x *api.Tank) { x.Density = "0" }},
		{api.ErrOpen, func(x *api.Tank) { x.Space = x.Space[1:] }},
		{api.ErrZero, func(x *api.Tank) { x.Space = reversed(t, x.Space) }},
	}
}

// P22.1, section Errors: of all combinations of faults the first one counts.
func TestFaultsInOrder(t *testing.T) {
	l := faults(t)
	for set := 1; set < 1<<len(l); set++ {
		x, want := example(t), api.OK
		for i, f := range slices.Backward(l) {
			if set>>i&1 == 1 {
				f.set(&x)
				want = f.e
			}
		}
		if got := Check(x); got != want {
			t.Errorf("the faults %b: the error %d instead of %d", set, got, want)
		}
	}
}

// Section Errors: all functions have the fault of the tank ahead of errors of their own.
func TestFaultsOfAllFunctions(t *testing.T) {
	for _, f := range faults(t) {
		x := example(t)
		f.set(&x)
		expectTank(t, x, f.e)
	}
	expectTank(t, api.Tank{}, api.ErrName)
}

// P22.1: each byte alone, and in a name; lengths.
func TestNames(t *testing.T) {
	permitted := "ABCDEFGHIJKLMNOPQRSTUVWXYZabcdefghijklmnopqrstuvwxyz0123456789-."
	for b := range 256 {
		for _, name := range []string{string([]byte{byte(b)}), "a" + string([]byte{byte(b)}), string([]byte{byte(b)}) + "-", "1" + string([]byte{byte(b)}) + "."} {
			want := api.ErrName
			if strings.IndexByte(permitted, byte(b)) >= 0 {
				want = api.OK
			}
			x := example(t)
			x.Name = name
			if got := Check(x); got != want {
				t.Errorf("%q: the error %d instead of %d", name, got, want)
			}
		}
	}
	for name, want := range map[string]api.Errno{
		"": api.ErrName, "ä": api.ErrName, "a b": api.ErrName, "\xff": api.ErrName, "a_b": api.ErrName, "-": api.OK, "...": api.OK, "007": api.OK,
		strings.Repeat("-", api.MaxName): api.OK, strings.Repeat("a", api.MaxName+1): api.ErrName, strings.Repeat("1", 1000): api.ErrName,
	} {
		x := example(t)
		x.Name = name
		if got := Check(x); got != want {
			t.Errorf("%q: the error %d instead of %d", name, got, want)
		}
	}
}

// P22.1: numbers that are not valid, and such that are out of range.
func TestNumbersOfTanks(t *testing.T) {
	for i, number := range none {
		x, y := example(t), example(t)
		x.Permeability, y.Density = number, number
		expectTank(t, x, api.ErrArg)
		expectTank(t, y, api.ErrArg)
		for k := range 3 {
			z := example(t)
			*[]*api.Rat{&z.Space[11][i%3].X, &z.Space[0][k].Y, &z.Space[i][0].Z}[k] = number
			expectTank(t, z, api.ErrArg)
		}
	}
	for _, number := range numbers("0 -1 -1/1000000007 -100000000000000000000") {
		x, y := example(t), example(t)
		x.Permeability, y.Density = number, number
		expectTank(t, x, api.ErrRange)
		expectTank(t, y, api.ErrRange)
	}
	for _, number := range numbers("2 1000000000000000001/1000000000000000000 10/9") {
		x := example(t)
		x.Permeability = number
		expectTank(t, x, api.ErrRange)
	}
}

// P22.1: spaces that are not closed, and such without a volume.
func TestSpaces(t *testing.T) {
	s, a, b := example(t).Space, point("1 0 0"), point("0 1 0")
	for _, space := range []api.Solid{s[1:], s[:11], append(slices.Clone(s), s[0]), {{a, b, point("0 0 0")}}} {
		expectTank(t, tankOf(space), api.ErrOpen)
	}
	flat := points("0 0 1, 4 0 1, 0 4 1")
	for _, space := range []api.Solid{
		reversed(t, s),
		slices.Concat(s, reversed(t, s)),
		slices.Concat(s, reversed(t, box(t, "0 -2 0", "10 2 4"))),
		{{flat[0], flat[1], flat[2]}, {flat[0], flat[2], flat[1]}},
		{{a, a, a}},
	} {
		expectTank(t, tankOf(space), api.ErrZero)
	}
}

// P22.1, section Errors: of lists.
func TestErrorsOfLists(t *testing.T) {
	named := func(names string) []api.Tank {
		var out []api.Tank
		for _, name := range strings.Fields(names) {
			x := example(t)
			x.Name = name
			out = append(out, x)
		}
		return out
	}
	for _, c := range []struct {
		l    []api.Tank
		want api.Errno
	}{
		{nil, api.OK},
		{[]api.Tank{}, api.OK},
		{named("a A a. a- a1"), api.OK},
		{named("a b a"), api.ErrTwice},
		{named("a b c c"), api.ErrTwice},
		{named("a a a_"), api.ErrName},
		{append(named("a a"), api.Tank{Name: "b"}), api.ErrEmpty},
		{[]api.Tank{{Name: "b"}, {Name: "+"}}, api.ErrEmpty},
		{[]api.Tank{{Name: "+"}, {Name: "b"}}, api.ErrName},
		{slices.Repeat(named("a"), api.MaxTanks), api.ErrTwice},
		{slices.Repeat(named("a"), api.MaxTanks+1), api.ErrTooLarge},
		{make([]api.Tank, api.MaxTanks), api.ErrName},
		{make([]api.Tank, api.MaxTanks+1), api.ErrTooLarge},
	} {
		if got := List(c.l); got != c.want {
			t.Errorf("%d tanks: the error %d instead of %d", len(c.l), got, c.want)
		}
	}
}

// Section Errors: of volumes, numbers that are not valid come ahead of an attitude that is not in range.
func TestErrorsOfVolumes(t *testing.T) {
	for _, number := range none {
		for _, other := range numbers("0 1/3 2 -7") {
			expect[api.Rat](t, number, api.ErrArg)(Volume(example(t), api.Attitude{Heel: number, Trim: other}, "1"))
			expect[api.Rat](t, number, api.ErrArg)(Volume(example(t), api.Attitude{Heel: other, Trim: number}, "1"))
			expect[api.Rat](t, number, api.ErrArg)(Volume(example(t), api.Attitude{Heel: other, Trim: other}, number))
		}
	}
	for _, a := range []string{"2 0", "-9/8 0", "0 1", "0 -501/1000", "1 501/1000", "7 7", "1000000000000000000001/1000000000000000000000 0"} {
		expect[api.Rat](t, a, api.ErrRange)(Volume(example(t), at(a), "1"))
	}
}

// Section Errors: of tables, too many heights come ahead of those that are not valid, and these ahead of those that do not increase.
func TestErrorsOfTables(t *testing.T) {
	for _, c := range []struct {
		heights []api.Rat
		want    api.Errno
	}{
		{make([]api.Rat, api.MaxList+1), api.ErrTooLarge},
		{slices.Repeat(numbers("1"), api.MaxList+1), api.ErrTooLarge},
		{slices.Repeat(numbers("1"), api.MaxList), api.ErrOrder},
		{make([]api.Rat, api.MaxList), api.ErrArg},
		{numbers("1 0 2/4"), api.ErrArg},
		{numbers("x"), api.ErrArg},
		{numbers("1 1"), api.ErrOrder},
		{numbers("0 1 2 3/2"), api.ErrOrder},
		{numbers("9 10 10 11"), api.ErrOrder},
		{numbers("1/3 333333333333/1000000000000"), api.ErrOrder},
	} {
		if l, e := Table(example(t), c.heights); len(l) > 0 || e != c.want {
			t.Errorf("%v: %v, and the error %d instead of %d", c.heights, l, e, c.want)
		}
	}
}

// P22.3, section Errors: lists that are no tables, and heights and volumes that are not valid, come ahead of those out of range.
func TestListsThatAreNoTables(t *testing.T) {
	long := make([]api.Sounding, api.MaxList+1)
	for i := range long {
		long[i] = api.Sounding{Height: api.Rat(strconv.Itoa(i)), Volume: "1"}
	}
	lists := [][]api.Sounding{nil, {}, soundings("1:1"), long, soundings("0:0 0:1"), soundings("0:0 1:1 1/2:2"), soundings("0:0 2:1 1:2 3:3"), soundings("0:1 1:0"), soundings("0:0 1:1 2:1/2 3:3"), make([]api.Sounding, 2)}
	for _, number := range none {
		lists = append(lists,
			[]api.Sounding{{Height: number, Volume: "0"}, {Height: "1", Volume: "1"}},
			[]api.Sounding{{Height: "0", Volume: "0"}, {Height: "1", Volume: number}},
			[]api.Sounding{{Height: "0", Volume: number}, {Height: "1", Volume: "1"}, {Height: "2", Volume: "1"}},
			[]api.Sounding{{Height: "0", Volume: "1"}, {Height: "1", Volume: "1"}, {Height: number, Volume: "1"}})
		expect[api.Rat](t, number, api.ErrArg)(Read(soundings("0:0 1:1"), number))
		expect[api.Interval](t, number, api.ErrArg)(Height(soundings("0:0 1:1"), number))
	}
	for i, l := range lists {
		for _, number := range numbers("0 1/2 1 7 -7 x") {
			expect[api.Rat](t, i, api.ErrArg)(Read(l, number))
			expect[api.Interval](t, i, api.ErrArg)(Height(l, number))
		}
	}
	if got, e := Read(long[:api.MaxList], "2047/2"); e != api.ErrRange {
		t.Errorf("%s, %d", got, e)
	}
	if got, e := Height(long[:api.MaxList], "1"); e != api.OK || got != (api.Interval{Lo: "0", Hi: "1023"}) {
		t.Errorf("%v, %d", got, e)
	}
}

// P22.3, section Errors
func TestReadingOutOfRange(t *testing.T) {
	l := soundings("-1:2 1/2:2 3:7")
	for _, number := range numbers("-2 -1000000001/1000000000 3000000001/1000000000 100") {
		expect[api.Rat](t, number, api.ErrRange)(Read(l, number))
	}
	for _, number := range numbers("-2 1999999999/1000000000 7000000001/1000000000 100") {
		expect[api.Interval](t, number, api.ErrRange)(Height(l, number))
	}
}

// result is what all functions return for a tank and a table.
type result struct {
	errors          [6]api.Errno
	capacity, under api.Rat
	read            api.Rat
	heights         api.Interval
	table           [3]api.Sounding
}

func askAll(x api.Tank, d api.Rat) result {
	var out result
	out.errors[0], out.errors[1] = Check(x), List([]api.Tank{x})
	out.capacity, out.errors[2] = Capacity(x)
	out.under, out.errors[3] = Volume(x, at("1/3 1/5"), d)
	l, _ := Table(x, numbers("-100 0 100"))
	copy(out.table[:], l)
	out.read, out.errors[4] = Read(l, "7/3")
	out.heights, out.errors[5] = Height(l, out.read)
	return out
}

// DOC P2, P3, section Rules: calls at once, and in any order, return what calls alone return, and change no arguments.
func TestCallsAtOnce(t *testing.T) {
	var alone []result
	l := spaces(t)
	for _, s := range l {
		before := slices.Clone(s)
		alone = append(alone, askAll(tankOf(s), "1/3"))
		if !slices.Equal(before, s) {
			t.Errorf("%v has become %v", before, s)
		}
	}
	var group sync.WaitGroup
	for range 4 {
		group.Go(func() {
			for i, want := range slices.Backward(alone) {
				if again := askAll(tankOf(l[i]), "1/3"); again != want {
					t.Errorf("%v and %v", again, want)
				}
			}
		})
	}
	group.Wait()
}

// DOC, section Rules: arguments are not modified, and results share no memory with them.
func TestMemory(t *testing.T) {
	heights := numbers("0 1 3")
	first := need[[]api.Sounding](t)(Table(example(t), heights))
	heights[1] = "2"
	second := need[[]api.Sounding](t)(Table(example(t), heights))
	if !slices.Equal(first, soundings("0:0 1:36 3:108")) || !slices.Equal(second, soundings("0:0 2:72 3:108")) {
		t.Errorf("%v and %v", first, second)
	}
	need[api.Rat](t)(Read(first, "2"))
	need[api.Interval](t)(Height(first, "2"))
	if !slices.Equal(first, soundings("0:0 1:36 3:108")) || !slices.Equal(heights, numbers("0 2 3")) {
		t.Errorf("%v, %v", first, heights)
	}
}
