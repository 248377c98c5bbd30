package sturm

import "garboard/api"

// stretch is a range with the changes of sign at its ends.
type stretch struct {
	in         api.Interval
	atLo, atHi int
}

func (c chain) stretch(in api.Interval) stretch {
	return stretch{in, c.changes(in.Lo), c.changes(in.Hi)}
}

func (s stretch) roots() int { return s.atLo - s.atHi }

// isolate returns the ranges in which the roots are isolated, and whether k halvings at most are enough for it.
func (c chain) isolate(s stretch, k int) ([]api.Interval, bool) {
	switch {
	case s.roots() == 0:
		return nil, true
	case s.roots() == 1:
		return []api.Interval{s.in}, true
	case k == 0:
		return nil, false
	}
	m := middle(s.in)
	atMiddle := c.changes(m)
	lower, ok := c.isolate(stretch{api.Interval{Lo: s.in.Lo, Hi: m}, s.atLo, atMiddle}, k-1)
	if !ok {
		return nil, false
	}
	upper, ok := c.isolate(stretch{api.Interval{Lo: m, Hi: s.in.Hi}, atMiddle, s.atHi}, k-1)
	if !ok {
		return nil, false
	}
	return append(lower, upper...), true
}

// narrow needs a range with one root. Up to this root the simple part keeps the sign that it has right above the lower end.
func (c chain) narrow(in api.Interval, k int) api.Interval {
	before := c.signAbove(in.Lo)
	for range k {
		if m := middle(in); c.sign(m) == before {
			in.Lo = m
		} else {
			in.Hi = m
		}
	}
	return in
}

// signAbove returns the sign of the simple part right above a number: where it is 0, that of its derivative.
func (c chain) signAbove(x api.Rat) int {
	if s := c.sign(x); s != 0 {
		return s
	}
	at := c.place(x)
	return at.sign(c[1])
}

// sign returns that of the simple part at a number.
func (c chain) sign(x api.Rat) int {
	at := c.place(x)
	return at.sign(c[0])
}
