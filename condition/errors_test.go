package condition

import (
	"slices"
	"strings"
	"sync"
	"testing"

	"garboard/api"
	"garboard/mesh"
)

// none are strings that are no numbers.
var none = []api.Rat{"", "-0", "2/4", "1.5", "01", "1/0", "4/1", "x", "\xff", "123456789012345678901234567890/246913578024691357802469135780"}

// expectFault checks that all functions of conditions have an error, and nothing else, whatever their other arguments are.
func expectFault(t *testing.T, s api.Craft, c api.Condition, want api.Errno) {
	t.Helper()
	if got := Check(s, c); got != want {
		t.Errorf("%v: the error %d instead of %d", c, got, want)
	}
	if got, e := Mass(s, c); got != "" || e != want {
		t.Errorf("%v: the mass %s and the error %d instead of %d", c, got, e, want)
	}
	if got, e := Displaced(s, c); got != "" || e != want {
		t.Errorf("%v: the displaced volume %s and the error %d instead of %d", c, got, e, want)
	}
	for i, a := range []api.Attitude{at("0 0"), at("2 x"), at("-2 0")} {
		expectNoCentre(t, s, c, a, 13*i, want)
	}
	expectNoFilling(t, s, c, "A 1", want)
	expectNoFilling(t, s, c, "x ?", want)
	expectFilled(t, s, c, "A", want)
	expectFilled(t, s, c, "", want)
}

func expectNoCentre(t *testing.T, s api.Craft, c api.Condition, a api.Attitude, k int, want api.Errno) {
	t.Helper()
	if got, e := Centre(s, c, a, k); got != (api.Spot{}) || e != want {
		t.Errorf("%v at %v, %d halvings: %v and the error %d instead of %d", c, a, k, got, e, want)
	}
}

func expectNoFilling(t *testing.T, s api.Craft, c api.Condition, fill string, want api.Errno) {
	t.Helper()
	if got, e := Fill(s, c, loaded("; " + fill).Fillings[0]); !areEqual(got, api.Condition{}) || e != want {
		t.Errorf("%v, filled with %s: %v and the error %d instead of %d", c, fill, got, e, want)
	}
}

// expectFilled checks that Without has an error.
func expectFilled(t *testing.T, s api.Craft, c api.Condition, name string, want api.Errno) {
	t.Helper()
	if got, e := Without(s, c, name); !areEqual(got, api.Condition{}) || e != want {
		t.Errorf("%v without %q: %v and the error %d instead of %d", c, name, got, e, want)
	}
}

// expectBroken checks that a craft has a fault, which comes ahead of those of conditions.
func expectBroken(t *testing.T, s api.Craft, want api.Errno) {
	t.Helper()
	if got := Whole(s); got != want {
		t.Errorf("the error %d instead of %d", got, want)
	}
	for _, c := range []api.Condition{exampleCondition(), {}, loaded("a b 1 1 1 1 1; x y, x y")} {
		expectFault(t, s, c, api.ErrMismatch)
	}
}

// craftFault is a fault of a craft, and how a craft gets it.
type craftFault struct {
	e   api.Errno
	set func(*api.Craft)
}

// craftFaults are in the order in which they are looked for. A craft that gets several of them gets the last one first.
var craftFaults = []craftFault{
	{api.ErrEmpty, func(s *api.Craft) { s.Hull = nil }},
	{api.ErrTooLarge, func(s *api.Craft) { s.Hull = slices.Repeat(s.Hull, 47) }},
	{api.ErrArg, func(s *api.Craft) { s.Hull[3][2].Z = "2/4" }},
	{api.ErrArg, func(s *api.Craft) { s.Density = "1." }},
	{api.ErrRange, func(s *api.Craft) {
		if s.Density != "1." {
			s.Density = "0"
		}
	}},
	{api.ErrOpen, func(s *api.Craft) { s.Hull = s.Hull[:11] }},
	{api.ErrZero, func(s *api.Craft) {
		for i, x := range s.Hull {
			s.Hull[i] = api.Triangle{x[1], x[0], x[2]}
		}
	}},
	{api.ErrName, func(s *api.Craft) { s.Tanks[0].Name = "a b" }},
}

// P25.1: of all combinations of faults the first one counts. The hull has no triangles, or too many of them.
func TestFaultsOfCraftsInOrder(t *testing.T) {
	for set := 1; set < 1<<len(craftFaults); set++ {
		if set&1 == 1 && set>>1&1 == 1 {
			continue
		}
		s, want := example(t), api.OK
		for i, f := range slices.Backward(craftFaults) {
			if set>>i&1 == 1 {
				f.set(&s)
				want = f.e
			}
		}
		if got := Whole(s); got != want {
			t.Errorf("the faults %b: the error %d instead of %d", set, got, want)
		}
	}
}

// P25.1: each fault alone, in all functions.
func TestFaultsOfCrafts(t *testing.T) {
	for _, f := range craftFaults {
		s := example(t)
		f.set(&s)
		expectBroken(t, s, f.e)
	}
	expectBroken(t, api.Craft{}, api.ErrEmpty)
}

// P25.1: numbers that are not valid, at each place of the hull, and as the density.
func TestNumbersOfCrafts(t *testing.T) {
	for i, x := range none {
		for place := range 3 {
			s := example(t)
			r := &s.Hull[i][place]
			*[]*api.Rat{&r.X, &r.Y, &r.Z}[place] = x
			expectBroken(t, s, api.ErrArg)
		}
		s := example(t)
		s.Density = x
		expectBroken(t, s, api.ErrArg)
	}
	for _, x := range []api.Rat{"0", "-1", "-1/1000000000000"} {
		s := example(t)
		s.Density = x
		expectBroken(t, s, api.ErrRange)
	}
	s := example(t)
	s.Density = "1/1000000000000"
	if e := Whole(s); e != api.OK {
		t.Errorf("a density just above 0: the error %d", e)
	}
}

// divided returns a box with as many triangles as are asked for: its first one is divided again and again.
func divided(t *testing.T, count int) api.Solid {
	t.Helper()
	s := example(t).Hull
	for len(s) < count {
		x := s[0]
		middle := api.Vector{X: text(quotient(sumOfThree(x[0].X, x[1].X, x[2].X), rat("3"))), Y: text(quotient(sumOfThree(x[0].Y, x[1].Y, x[2].Y), rat("3"))), Z: text(quotient(sumOfThree(x[0].Z, x[1].Z, x[2].Z), rat("3")))}
		s = append(s[1:], api.Triangle{x[0], x[1], middle}, api.Triangle{x[1], x[2], middle}, api.Triangle{x[2], x[0], middle})
	}
	return s
}

// P25.1: hulls with the most triangles, and with two more.
func TestSizesOfHulls(t *testing.T) {
	s := example(t)
	s.Hull = divided(t, api.MaxTriangles)
	if e := Whole(s); e != api.OK || len(s.Hull) != api.MaxTriangles {
		t.Errorf("%d triangles: the error %d", len(s.Hull), e)
	}
	s.Hull = divided(t, api.MaxTriangles+2)
	expectBroken(t, s, api.ErrTooLarge)
	s.Hull = slices.Repeat(example(t).Hull, api.MaxTriangles)
	expectBroken(t, s, api.ErrTooLarge)
}

// P25.1: hulls that are inside out, or have two parts of which one takes away the other.
func TestHullsWithoutVolume(t *testing.T) {
	hull := example(t).Hull
	for _, other := range []api.Solid{reversed(t, hull), slices.Concat(hull, reversed(t, hull)), slices.Concat(hull, need[api.Solid](t)(mesh.Move(reversed(t, hull), point("100 0 0"))))} {
		s := example(t)
		s.Hull = other
		expectBroken(t, s, api.ErrZero)
	}
}

// P25.1: the faults of tanks come behind those of the hull, and are those of their list.
func TestFaultsOfTanks(t *testing.T) {
	for _, c := range []struct {
		e   api.Errno
		set func(l []api.Tank) []api.Tank
	}{
		{api.ErrTooLarge, func(l []api.Tank) []api.Tank { return append(l, l[0]) }},
		{api.ErrTooLarge, func(l []api.Tank) []api.Tank { return make([]api.Tank, api.MaxTanks+1) }},
		{api.ErrName, func(l []api.Tank) []api.Tank { l[3], l[9].Space = api.Tank{}, nil; return l }},
		{api.ErrEmpty, func(l []api.Tank) []api.Tank { l[3].Space, l[9].Name = nil, ""; return l }},
		{api.ErrTooLarge, func(l []api.Tank) []api.Tank { l[5].Space = slices.Repeat(l[5].Space, 43); return l }},
		{api.ErrArg, func(l []api.Tank) []api.Tank { l[15].Density = ""; return l }},
		{api.ErrRange, func(l []api.Tank) []api.Tank { l[7].Permeability = "0"; return l }},
		{api.ErrRange, func(l []api.Tank) []api.Tank { l[7].Density = "0"; return l }},
		{api.ErrOpen, func(l []api.Tank) []api.Tank { l[0].Space = l[0].Space[1:]; return l }},
		{api.ErrZero, func(l []api.Tank) []api.Tank { l[1].Space = reversed(t, l[1].Space); return l }},
		{api.ErrTwice, func(l []api.Tank) []api.Tank { l[1].Name = l[11].Name; return l }},
		{api.ErrRange, func(l []api.Tank) []api.Tank { l[1].Name, l[15].Density = l[11].Name, "-1"; return l }},
	} {
		s := withMostTanks(t)
		s.Tanks = c.set(s.Tanks)
		expectBroken(t, s, c.e)
		s.Hull = nil
		expectBroken(t, s, api.ErrEmpty)
	}
}

// conditionFaults are such of the second weight or of the second filling, in the order in which they are looked for.
var conditionFaults = []struct {
	e   api.Errno
	set func(*api.Condition)
}{
	{api.ErrTooLarge, func(c *api.Condition) { c.Weights = append(c.Weights, many(api.MaxWeights)...) }},
	{api.ErrName, func(c *api.Condition) { c.Weights[1].Name = "" }},
	{api.ErrArg, func(c *api.Condition) { c.Weights[1].Centre.Z = "1/1" }},
	{api.ErrRange, func(c *api.Condition) { c.Weights[1].Mass = "-1" }},
	{api.ErrMismatch, func(c *api.Condition) { c.Weights[1].To = "9" }},
	{api.ErrTwice, func(c *api.Condition) { c.Weights[1].Name = "hull" }},
	{api.ErrTooLarge, func(c *api.Condition) {
		c.Fillings = append(c.Fillings, make([]api.Filling, api.MaxTanks-1)...)
	}},
	{api.ErrNotFound, func(c *api.Condition) { c.Fillings[1].Tank = "T16" }},
	{api.ErrArg, func(c *api.Condition) { c.Fillings[1].Volume = "1/1" }},
	{api.ErrRange, func(c *api.Condition) {
		if c.Fillings[1].Volume != "1/1" {
			c.Fillings[1].Volume = "5"
		}
	}},
	{api.ErrTwice, func(c *api.Condition) {
		if c.Fillings[1].Tank != "T16" {
			c.Fillings[1].Tank = "T3"
		}
	}},
}

// P25.1: of all combinations of faults the first one counts; a faulty filling behind the second one does not.
func TestFaultsOfConditionsInOrder(t *testing.T) {
	s := withMostTanks(t)
	for set := 1; set < 1<<len(conditionFaults); set++ {
		c, want := loaded("hull 30 5 0 1 0 10, crane 1 1 1 1 0 2; T3 4, T15 0"), api.OK
		for i, f := range slices.Backward(conditionFaults) {
			if set>>i&1 == 1 {
				f.set(&c)
				want = f.e
			}
		}
		c.Fillings = append(c.Fillings, api.Filling{Tank: "?", Volume: "?"})
		if got := check(tanksOf(s), c); got != want {
			t.Errorf("the faults %b: the error %d instead of %d", set, got, want)
		}
	}
}

// P25.1, section Errors: each fault alone, in all functions.
func TestFaultsOfConditions(t *testing.T) {
	for _, f := range conditionFaults {
		c := loaded("hull 30 5 0 1 0 10, crane 1 1 1 1 0 2; T3 4, T15 0")
		f.set(&c)
		expectFault(t, withMostTanks(t), c, f.e)
	}
	for load, want := range map[string]api.Errno{
		"; T1 1, T2 5, T3 ?, T4 1":                                   api.ErrRange,
		"; T1 1, T2 ?, T3 5, t4 1":                                   api.ErrArg,
		"; T1 1, T2 2, T2 3, t4 1":                                   api.ErrTwice,
		"; T1 1, T2 2, T2 5, T1 1":                                   api.ErrRange,
		"; T1 1, T2 2, T2 -1, T1 1":                                  api.ErrRange,
		"; T1 1, t 5, T2 2, T1 1":                                    api.ErrNotFound,
		"; T1 4000000001/1000000000, T1 1":                           api.ErrRange,
		"; T1 -1/1000000000 frozen":                                  api.ErrRange,
		"a 1 1 1 1 0 2; T 1":                                         api.ErrNotFound,
		"T1 1 1 1 1 0 2, T2 1 1 1 1 0 2; T1 4, T2 0, T3 1, T1 1":     api.ErrTwice,
		"T1 1 1 1 1 0 2, T1 1 1 1 1 0 2; T1 4, T2 0, T3 1, t1 ?":     api.ErrTwice,
		"a 1 1 1 1 0 2, b 1 1 1 1 2 0; T1 4, T2 0, T3 1, t1 ?, T1 1": api.ErrRange,
	} {
		expectFault(t, withMostTanks(t), loaded(load), want)
	}
}

// P25.1: names that no tank has, and volumes that are no numbers.
func TestNamesAndVolumes(t *testing.T) {
	for _, name := range []string{"", "a", "AA", "A ", "\xff", strings.Repeat("A", 100)} {
		expectFault(t, example(t), api.Condition{Fillings: []api.Filling{{Tank: name, Volume: "1"}}}, api.ErrNotFound)
		expectFault(t, example(t), api.Condition{Fillings: []api.Filling{{Tank: name, Volume: "x"}, {}}}, api.ErrNotFound)
	}
	for _, volume := range none {
		expectFault(t, example(t), api.Condition{Fillings: []api.Filling{{Tank: "A", Volume: volume}}}, api.ErrArg)
		expectFault(t, example(t), api.Condition{Fillings: []api.Filling{{Tank: "A", Volume: "4", Frozen: true}, {Tank: "A", Volume: volume, Frozen: true}}}, api.ErrArg)
	}
}

// P25.1: volumes just in and just out of range of a tank that is not filled wholly.
func TestRangesOfVolumes(t *testing.T) {
	s := tanker(t)
	for fill, want := range map[string]api.Errno{
		"No.1-P 399/8": api.OK, "No.1-P 0": api.OK, "No.1-P 1/1000000000000 frozen": api.OK,
		"No.1-P 400/8": api.ErrArg, "No.1-P 50": api.ErrRange, "No.1-P 105/2": api.ErrRange,
		"No.1-P 49875000001/1000000000 frozen": api.ErrRange, "No.1-P -1/1000000000000": api.ErrRange,
	} {
		if got := Check(s, loaded("; "+fill)); got != want {
			t.Errorf("%s: the error %d instead of %d", fill, got, want)
		}
	}
}

// Section Errors: of Centre.
func TestErrorsOfCentre(t *testing.T) {
	s, c := example(t), exampleCondition()
	for _, x := range none {
		for _, y := range []api.Rat{"0", "1/3", "2", x} {
			for _, k := range []int{2, -1, 25} {
				expectNoCentre(t, s, c, api.Attitude{Heel: x, Trim: y}, k, api.ErrArg)
				expectNoCentre(t, s, api.Condition{}, api.Attitude{Heel: y, Trim: x}, k, api.ErrArg)
			}
		}
	}
	for _, a := range []string{"2 0", "-9/8 0", "0 501/1000", "0 -1", "1000000000000000000001/1000000000000000000000 0"} {
		for _, k := range []int{0, 24, 25} {
			expectNoCentre(t, s, c, at(a), k, api.ErrRange)
			expectNoCentre(t, s, api.Condition{}, at(a), k, api.ErrRange)
		}
	}
	for _, k := range []int{-1, api.MaxHalvings + 1, -1 << 63, 1<<63 - 1} {
		expectNoCentre(t, s, c, at("1/2 1/3"), k, api.ErrRange)
		expectNoCentre(t, s, api.Condition{}, at("0 0"), k, api.ErrRange)
		expectNoCentre(t, s, loaded("a 1 1 1 1 0 2"), at("0 0"), k, api.ErrRange)
	}
	for _, load := range []string{"", "a 0 1 1 1 0 2", "; A 0", "; A 0 frozen", "a 0 1 1 1 0 2, b 0 0 1 1 -1 1; A 0"} {
		for _, k := range []int{0, 24} {
			expectNoCentre(t, s, loaded(load), at("-1 1/2"), k, api.ErrZero)
		}
	}
	if _, e := Centre(s, loaded("a 1000 1 1 1 0 2"), at("0 0"), 0); e != api.OK {
		t.Errorf("a ship that does not float has a centre, too: the error %d", e)
	}
}

// Section Errors: of Fill, whose result is checked as a whole.
func TestErrorsOfFill(t *testing.T) {
	s := withMostTanks(t)
	for _, c := range []struct {
		load, fill string
		want       api.Errno
	}{
		{"", "T16 1", api.ErrNotFound}, {"", "t1 ?", api.ErrNotFound}, {"", "T1 ?", api.ErrArg}, {"; T1 1", "T1 02", api.ErrArg},
		{"; T1 1", "T1 5", api.ErrRange}, {"; T1 1", "T2 -1 frozen", api.ErrRange}, {"; T1 1", "T2 4000000001/1000000000", api.ErrRange},
	} {
		expectNoFilling(t, s, loaded(c.load), c.fill, c.want)
	}
	var full api.Condition
	for _, x := range s.Tanks {
		full.Fillings = append(full.Fillings, api.Filling{Tank: x.Name, Volume: "1"})
	}
	expectNoFilling(t, s, full, "T16 1", api.ErrTooLarge)
	expectNoFilling(t, s, full, "T15 5", api.ErrRange)
	if got, e := Fill(s, full, api.Filling{Tank: "T15", Volume: "4"}); e != api.OK || len(got.Fillings) != api.MaxTanks || got.Fillings[15].Volume != "4" {
		t.Errorf("%v, the error %d", got, e)
	}
}

// Section Errors: of Without. A tank that is not filled is not found, as one that is not there.
func TestErrorsOfWithout(t *testing.T) {
	for _, name := range []string{"A", "", "hull", "No.1-P ", "no.1-P", "\xff", "aft"} {
		expectFilled(t, tanker(t), loaded("hull 100 10 0 7/3 0 20; No.1-P 0, No.1-S 3"), name, api.ErrNotFound)
		expectFilled(t, tanker(t), api.Condition{}, name, api.ErrNotFound)
	}
}

// answer is what all functions return for a condition.
type answer struct {
	whole, check       api.Errno
	mass, displaced    api.Rat
	centre             api.Spot
	filled, less, same string
}

func words(c api.Condition) string {
	var out strings.Builder
	for _, w := range c.Weights {
		for _, x := range []api.Rat{api.Rat(w.Name), w.Mass, w.Centre.X, w.Centre.Y, w.Centre.Z, w.From, w.To} {
			out.WriteString(string(x) + " ")
		}
	}
	for _, f := range c.Fillings {
		out.WriteString("; " + f.Tank + " " + string(f.Volume))
		if f.Frozen {
			out.WriteString(" frozen")
		}
	}
	return out.String()
}

func askAll(x trial, i int) answer {
	var out answer
	first := x.s.Tanks[0].Name
	out.whole, out.check = Whole(x.s), Check(x.s, x.c)
	out.mass, _ = Mass(x.s, x.c)
	out.displaced, _ = Displaced(x.s, x.c)
	out.centre, _ = Centre(x.s, x.c, attitudes()[i%8], 2)
	filled, _ := Fill(x.s, x.c, api.Filling{Tank: first, Volume: "1/11"})
	less, _ := Without(x.s, x.c, first)
	out.filled, out.less, out.same = words(filled), words(less), words(x.c)
	return out
}

// DOC P2, P3, section Rules: calls at once, and in any order, return what calls alone return, and change no arguments.
func TestCallsAtOnce(t *testing.T) {
	l := trials(t)
	var alone []answer
	for i, x := range l {
		before := words(x.c)
		alone = append(alone, askAll(x, i))
		if words(x.c) != before {
			t.Errorf("%s has become %s", before, words(x.c))
		}
	}
	var group sync.WaitGroup
	for range 4 {
		group.Go(func() {
			for i, want := range slices.Backward(alone) {
				if again := askAll(l[i], i); again != want {
					t.Errorf("%v and %v", again, want)
				}
			}
		})
	}
	group.Wait()
}

// DOC, section Rules: results share no memory with arguments, also if these have room behind their ends.
func TestMemory(t *testing.T) {
	s, c := tanker(t), loaded("a 1 1 0 0 0 2, b 1 1 0 0 0 2; No.1-P 1, aft 1/3, No.1-S 2")
	c.Weights, c.Fillings = append(make([]api.Weight, 0, 10), c.Weights...), append(make([]api.Filling, 0, 10), c.Fillings...)
	var results []api.Condition
	for _, fill := range []string{"hull 0", "aft 0", "hull 1/1000000000000"} {
		results = append(results, need[api.Condition](t)(Fill(s, c, loaded("; " + fill).Fillings[0])))
	}
	for _, name := range []string{"No.1-P", "aft", "No.1-S"} {
		results = append(results, need[api.Condition](t)(Without(s, c, name)))
	}
	var before []string
	for _, x := range results {
		before = append(before, words(x))
	}
	for i := range c.Weights[:cap(c.Weights)] {
		c.Weights[:cap(c.Weights)][i] = api.Weight{Name: "changed"}
		c.Fillings[:cap(c.Fillings)][i] = api.Filling{Tank: "changed"}
	}
	for i, x := range results {
		if words(x) != before[i] {
			t.Errorf("result %d has become %v", i, x)
		}
		clear(x.Weights)
		clear(x.Fillings)
	}
	if c.Weights[0].Name != "changed" || c.Fillings[0].Tank != "changed" {
		t.Errorf("%v", c)
	}
}
