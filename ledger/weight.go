package ledger

import (
	"slices"

	"garboard/api"
	"garboard/rational"
	"garboard/tank"
)

// check returns the first fault that a weight has by itself.
func check(w api.Weight) api.Errno {
	if !isName(w.Name) {
		return api.ErrName
	}
	if !areNumbers(w.Mass, w.Centre.X, w.Centre.Y, w.Centre.Z, w.From, w.To) {
		return api.ErrArg
	}
	if isLess(w.Mass, "0") || !isLess(w.From, w.To) {
		return api.ErrRange
	}
	if w.Centre.X != over(plus(w.From, w.To), "2") {
		return api.ErrMismatch
	}
	return api.OK
}

// isName asks about a tank that has nothing but this name. Its name is looked at first.
func isName(text string) bool { return tank.Check(api.Tank{Name: text}) != api.ErrName }

// find returns the index of the weight with a name, or -1.
func find(l []api.Weight, name string) int {
	return slices.IndexFunc(l, func(w api.Weight) bool { return w.Name == name })
}

// shareAft returns which part of the length of a weight has less x.
func shareAft(w api.Weight, x api.Rat) api.Rat {
	if isLess(x, w.From) {
		return "0"
	}
	if isLess(w.To, x) {
		return "1"
	}
	return over(minus(x, w.From), minus(w.To, w.From))
}

func added(a, b api.Vector) api.Vector {
	return api.Vector{X: plus(a.X, b.X), Y: plus(a.Y, b.Y), Z: plus(a.Z, b.Z)}
}

func multiplied(a api.Vector, factor api.Rat) api.Vector {
	return api.Vector{X: times(a.X, factor), Y: times(a.Y, factor), Z: times(a.Z, factor)}
}

func areNumbers(l ...api.Rat) bool {
	return !slices.ContainsFunc(l, func(x api.Rat) bool { return !rational.Valid(x) })
}

// sure returns a result that comes without an error, because what it is computed from is valid, and a divisor is not 0.
func sure[T any](result T, _ api.Errno) T { return result }

func plus(x, y api.Rat) api.Rat  { return sure(rational.Add(x, y)) }
func minus(x, y api.Rat) api.Rat { return sure(rational.Sub(x, y)) }
func times(x, y api.Rat) api.Rat { return sure(rational.Mul(x, y)) }
func over(x, y api.Rat) api.Rat  { return sure(rational.Div(x, y)) }
func isLess(x, y api.Rat) bool   { return sure(rational.Compare(x, y)) < 0 }
