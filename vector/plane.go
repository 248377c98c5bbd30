package vector

import "garboard/api"

// Side returns the side of a point.
func Side(p api.Plane, a api.Vector) (int, api.Errno) {
	x, e := height(p, a)
	return order(x, "0"), e
}

// height returns N . r - C, which has the sign of the side.
func height(p api.Plane, a api.Vector) (api.Rat, api.Errno) {
	n := read(p.N)
	if n == zero() {
		return "", api.ErrArg
	}
	return checked(minus(dot(n, read(a)), p.C))
}

// Through returns the plane through three points.
func Through(a, b, c api.Vector) (api.Plane, api.Errno) {
	first := read(a)
	n := cross(combine(read(b), first, minus), combine(read(c), first, minus))
	if n == zero() {
		return api.Plane{}, api.ErrZero
	}
	normal, e := n.checked()
	return api.Plane{N: normal, C: dot(n, first)}, e
}

// Crossing returns the crossing of an edge with a plane.
func Crossing(p api.Plane, a, b api.Vector) (api.Vector, api.Errno) {
	first, e := height(p, a)
	second, f := height(p, b)
	if e != api.OK || f != api.OK {
		return api.Vector{}, api.ErrArg
	}
	if isAbove(first) == isAbove(second) {
		return api.Vector{}, api.ErrState
	}
	start := read(a)
	part := over(first, minus(first, second))
	return combine(start, scaled(combine(read(b), start, minus), part), plus).checked()
}

func isAbove(height api.Rat) bool { return order(height, "0") > 0 }
