package piecewise

import (
	"garboard/api"
	"garboard/polynomial"
)

// Cumulate returns the cumulated function.
func Cumulate(l []api.Piece, x api.Rat) ([]api.Piece, api.Errno) {
	if e := checkWith(l, x); e != api.OK {
		return nil, e
	}
	var out []api.Piece
	for _, p := range l {
		integral, e := polynomial.Integrate(p.P)
		if e != api.OK {
			return nil, e
		}
		integral = sum(integral, constant(minus(x, valueOf(integral, p.From))))
		x = valueOf(integral, p.To)
		out = append(out, api.Piece{From: p.From, To: p.To, P: integral})
	}
	return out, api.OK
}

// Total returns the total.
func Total(l []api.Piece) (api.Rat, api.Errno) {
	cumulated, e := Cumulate(l, "0")
	if e != api.OK {
		return "", e
	}
	return value(cumulated, to(cumulated)), api.OK
}

// Jumps returns the places of jumps.
func Jumps(l []api.Piece) ([]api.Rat, api.Errno) {
	if e := Check(l); e != api.OK {
		return nil, e
	}
	var out []api.Rat
	for i, p := range l[1:] {
		if valueOf(l[i].P, p.From) != valueOf(p.P, p.From) {
			out = append(out, p.From)
		}
	}
	return out, api.OK
}
