package piecewise

import (
	"iter"
	"maps"
	"slices"

	"garboard/api"
)

// Add returns the sum of two functions.
func Add(l, m []api.Piece) ([]api.Piece, api.Errno) {
	places, e := placesOf(l, m)
	if e != api.OK {
		return nil, e
	}
	var out []api.Piece
	for p, r := range merged(l, m, places) {
		out = append(out, api.Piece{From: p.From, To: p.To, P: sum(p.P, r.P)})
	}
	return out, api.OK
}

// Exceeds returns the first place at which a function is greater than another one.
func Exceeds(l, m []api.Piece) (api.Rat, bool, api.Errno) {
	places, e := placesOf(l, m)
	if e != api.OK {
		return "", false, e
	}
	for _, x := range places {
		if order(value(l, x), value(m, x)) > 0 {
			return x, true, api.OK
		}
	}
	return "", false, api.OK
}

// placesOf returns the places at which pieces of the sum of two functions begin or end, ascending.
func placesOf(l, m []api.Piece) ([]api.Rat, api.Errno) {
	for _, function := range [][]api.Piece{l, m} {
		if e := Check(function); e != api.OK {
			return nil, e
		}
	}
	if from(l) != from(m) || to(l) != to(m) {
		return nil, api.ErrMismatch
	}
	found := map[api.Rat]bool{}
	for _, p := range slices.Concat(l, m) {
		found[p.From], found[p.To] = true, true
	}
	if pieces := len(found) - 1; pieces > api.MaxPieces {
		return nil, api.ErrTooLarge
	}
	return slices.SortedFunc(maps.Keys(found), order), api.OK
}

// merged yields, for each two places one behind the other, the pieces of both functions there, cut to what is between both.
func merged(l, m []api.Piece, places []api.Rat) iter.Seq2[api.Piece, api.Piece] {
	return func(yield func(p, r api.Piece) bool) {
		first, second := l, m
		for i, x := range places[1:] {
			p, r := first[0], second[0]
			p.From, r.From = places[i], places[i]
			first, second = behind(first, x), behind(second, x)
			p.To, r.To = x, x
			if !yield(p, r) {
				return
			}
		}
	}
}

// behind leaves out the first piece if it ends at a place.
func behind(l []api.Piece, x api.Rat) []api.Piece {
	if l[0].To == x {
		return l[1:]
	}
	return l
}
