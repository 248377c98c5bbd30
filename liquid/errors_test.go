package liquid

import (
	"slices"
	"sync"
	"testing"

	"garboard/api"
)

// none are strings that are no numbers.
var none = []api.Rat{"", "-0", "2/4", "1.5", "01", "1/0", "4/1", "x", "\xff", "123456789012345678901234567890/246913578024691357802469135780"}

// answer is what a function returned.
type answer struct {
	Level api.Interval
	Spot  api.Spot
	Error api.Errno
}

// asked calls all functions of tanks.
func asked(x api.Tank, a api.Attitude, volume api.Rat, k int) []answer {
	level, e := Level(x, a, volume, k)
	moves, f := Centre(x, a, volume, k)
	stays, g := Frozen(x, a, volume, k)
	return []answer{{Level: level, Error: e}, {Spot: moves, Error: f}, {Spot: stays, Error: g}}
}

// expect checks that there is nothing but an error.
func expect(t *testing.T, what any, e api.Errno, answers ...answer) {
	t.Helper()
	for i, got := range answers {
		if got != (answer{Error: e}) {
			t.Errorf("%v: answer %d is %v instead of the error %d", what, i, got, e)
		}
	}
}

func expectTurned(t *testing.T, x api.Spot, a api.Attitude, e api.Errno) {
	t.Helper()
	got, f := Turned(x, a)
	expect(t, a, e, answer{Spot: got, Error: f})
}

// farAttitudes are out of range.
func farAttitudes() []api.Attitude {
	return []api.Attitude{at("2 0"), at("-2 0"), at("1000000000000000000001/1000000000000000000000 0"), at("-9/8 1/2"), at("0 1"), at("0 -1"), at("1 501/1000"), at("-1 -501/1000"), at("7 7")}
}

// wrongAttitudes have what is no number, also beside a number that is out of range.
func wrongAttitudes() []api.Attitude {
	var out []api.Attitude
	for _, x := range none {
		for _, y := range []api.Rat{"0", "1/3", "2", "-5", x} {
			out = append(out, api.Attitude{Heel: x, Trim: y}, api.Attitude{Heel: y, Trim: x})
		}
	}
	return out
}

// farHalvings are out of range.
var farHalvings = []int{-1, api.MaxHalvings + 1, -1 << 63, 1<<63 - 1}

// Section Errors: faults of the tank come ahead of all others, in their order.
func TestFaultsOfTanks(t *testing.T) {
	for _, c := range []struct {
		e   api.Errno
		set func(*api.Tank)
	}{
		{api.ErrName, func(x *api.Tank) { x.Name = "No 1" }},
		{api.ErrName, func(x *api.Tank) { *x = api.Tank{} }},
		{api.ErrEmpty, func(x *api.Tank) { x.Space = nil }},
		{api.ErrTooLarge, func(x *api.Tank) { x.Space = slices.Repeat(x.Space, 60) }},
		{api.ErrArg, func(x *api.Tank) { x.Space[1][2].Y = "2/4" }},
		{api.ErrArg, func(x *api.Tank) { x.Permeability = "-2/4" }},
		{api.ErrArg, func(x *api.Tank) { x.Density = "" }},
		{api.ErrRange, func(x *api.Tank) { x.Permeability = "10/9" }},
		{api.ErrRange, func(x *api.Tank) { x.Permeability = "0" }},
		{api.ErrRange, func(x *api.Tank) { x.Density = "0" }},
		{api.ErrOpen, func(x *api.Tank) { x.Space = x.Space[1:] }},
		{api.ErrZero, func(x *api.Tank) { x.Space = reversed(t, x.Space) }},
	} {
		x := example(t)
		c.set(&x)
		for _, a := range []api.Attitude{at("0 0"), at("1/2 1/3"), at("2 0"), at("7 x"), {}} {
			expect(t, a, c.e, slices.Concat(asked(x, a, "1", 2), asked(x, a, "", 25), asked(x, a, "-1", -1), asked(x, a, "0", 3))...)
		}
	}
}

// Section Errors: numbers that are not valid come ahead of such that are out of range.
func TestNumbersThatAreNotValid(t *testing.T) {
	for _, a := range wrongAttitudes() {
		expect(t, a, api.ErrArg, slices.Concat(asked(example(t), a, "1", 2), asked(example(t), a, "-1", 2), asked(example(t), a, "0", -1), asked(example(t), a, "x", 25))...)
		expectTurned(t, spot("0 1 0 1 0 1"), a, api.ErrArg)
		expectTurned(t, spot("0 1 1 0 0 1"), a, api.ErrArg)
	}
	for _, number := range none {
		for _, a := range append(farAttitudes(), attitudes()...) {
			expect(t, number, api.ErrArg, append(asked(example(t), a, number, 2), asked(example(t), a, number, -1)...)...)
		}
	}
}

// Section Errors: attitudes, halvings and volumes out of range; they come ahead of a volume that is 0.
func TestOutOfRange(t *testing.T) {
	for _, volume := range []api.Rat{"0", "1", "108", "109", "-1"} {
		for _, a := range farAttitudes() {
			expect(t, a, api.ErrRange, asked(example(t), a, volume, 2)...)
		}
		for _, k := range farHalvings {
			expect(t, k, api.ErrRange, append(asked(example(t), at("0 0"), volume, k), asked(example(t), at("1/2 1/3"), volume, k)...)...)
		}
	}
	for _, volume := range []api.Rat{"-1", "-1/1000000000000", "109", "120", "108000000001/1000000000"} {
		for _, a := range attitudes() {
			for _, k := range []int{0, 3, api.MaxHalvings} {
				expect(t, volume, api.ErrRange, asked(example(t), a, volume, k)...)
			}
		}
	}
}

// Section Errors: an empty tank has a level, but no centre.
func TestNoVolume(t *testing.T) {
	for _, x := range tanks(t) {
		for _, a := range attitudes() {
			for _, k := range []int{0, 3, api.MaxHalvings} {
				answers := asked(x, a, "0", k)
				expect(t, x, api.ErrZero, answers[1:]...)
				if answers[0].Error != api.OK {
					t.Errorf("%v at %v: %v", x, a, answers[0])
				}
			}
		}
	}
}

// Section Errors: enclosures that are not valid come ahead of attitudes out of range.
func TestEnclosuresThatAreNotValid(t *testing.T) {
	var wrong []api.Spot
	for _, number := range none {
		for _, pair := range []api.Interval{{Lo: number, Hi: "1"}, {Lo: "1", Hi: number}, {Lo: number, Hi: number}} {
			wrong = append(wrong, api.Spot{Ahead: pair, Side: ends("0 1"), Up: ends("0 1")}, api.Spot{Ahead: ends("0 1"), Side: pair, Up: ends("0 1")}, api.Spot{Ahead: ends("0 1"), Side: ends("0 1"), Up: pair})
		}
	}
	wrong = append(wrong, spot("1 0 0 1 0 1"), spot("0 1 1 0 0 1"), spot("0 1 0 1 1 0"), spot("0 0 0 0 1/3 333333333333/1000000000000"), api.Spot{})
	for _, x := range wrong {
		for _, a := range append(farAttitudes(), attitudes()...) {
			expectTurned(t, x, a, api.ErrArg)
		}
	}
	for _, a := range farAttitudes() {
		expectTurned(t, spot("0 1 0 1 0 1"), a, api.ErrRange)
	}
}

// DOC P2, P3, section Rules: calls at once, and in any order, return what calls alone return, and change no arguments.
func TestCallsAtOnce(t *testing.T) {
	var alone [][]answer
	askAll := func(x api.Tank, i int) []answer {
		turned, e := Turned(enclosures()[i%8], attitudes()[i%8])
		return append(asked(x, attitudes()[i%8], "1/1000000007", 3), answer{Spot: turned, Error: e})
	}
	l := tanks(t)
	for i, x := range l {
		before := slices.Clone(x.Space)
		alone = append(alone, askAll(x, i))
		if !slices.Equal(before, x.Space) {
			t.Errorf("%v has become %v", before, x.Space)
		}
	}
	var group sync.WaitGroup
	for range 4 {
		group.Go(func() {
			for i, want := range slices.Backward(alone) {
				if again := askAll(l[i], i); !slices.Equal(again, want) {
					t.Errorf("%v and %v", again, want)
				}
			}
		})
	}
	group.Wait()
}
