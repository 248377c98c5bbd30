package mesh

import (
	"strings"

	"garboard/api"
	"garboard/vector"
)

// isConvex leaves out triangles whose points are on one line: there is no plane through them.
func isConvex(s api.Solid) bool {
	points := distinct(s)
	for _, t := range s {
		plane, e := vector.Through(t[0], t[1], t[2])
		if e == api.OK && isAnyAbove(points, whole(plane)) {
			return false
		}
	}
	return true
}

func isAnyAbove(points []api.Vector, p api.Plane) bool {
	for _, point := range points {
		if side, _ := vector.Side(p, point); side > 0 {
			return true
		}
	}
	return false
}

// whole returns the same plane with integers: many points are held against each plane, and products with integers are much faster than with quotients.
func whole(p api.Plane) api.Plane {
	for {
		factor := denominator(p.N.X, p.N.Y, p.N.Z, p.C)
		if factor == "1" {
			return p
		}
		p = api.Plane{N: scaled(p.N, factor), C: scaled(api.Vector{X: p.C, Y: "0", Z: "0"}, factor).X}
	}
}

// denominator returns the first denominator of some valid numbers that is not 1, if there is one. It is read from the text.
func denominator(l ...api.Rat) api.Rat {
	for _, x := range l {
		if _, den, isQuotient := strings.Cut(string(x), "/"); isQuotient {
			return api.Rat(den)
		}
	}
	return "1"
}
