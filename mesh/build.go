package mesh

import (
	"slices"
	"strings"

	"garboard/api"
	"garboard/vector"
)

// leastPoints is how many points a polygon needs.
const leastPoints = 3

// Fan returns the fan of a polygon.
func Fan(l []api.Vector) ([]api.Triangle, api.Errno) {
	if e := checkSize(l, api.MaxPoints); e != api.OK {
		return nil, e
	}
	if !areValid(l) {
		return nil, api.ErrArg
	}
	return fan(l), api.OK
}

func checkSize(l []api.Vector, most int) api.Errno {
	if len(l) < leastPoints {
		return api.ErrEmpty
	}
	if len(l) > most {
		return api.ErrTooLarge
	}
	return api.OK
}

func fan(l []api.Vector) []api.Triangle {
	var out []api.Triangle
	for i := 2; i < len(l); i++ {
		out = append(out, api.Triangle{l[0], l[i-1], l[i]})
	}
	return out
}

// Prism returns the prism over a polygon along a vector.
func Prism(l []api.Vector, v api.Vector) (api.Solid, api.Errno) {
	// A fan has two triangles fewer than points, and each side has two.
	const most = api.MaxTriangles/4 + 1
	if e := checkSize(l, most); e != api.OK {
		return nil, e
	}
	if !areValid(l) || !vector.Valid(v) {
		return nil, api.ErrArg
	}
	return prism(l, v), api.OK
}

func prism(l []api.Vector, v api.Vector) api.Solid {
	var moved []api.Vector
	for _, p := range l {
		moved = append(moved, sum(p, v))
	}
	out := slices.Concat(reversed(fan(l)), fan(moved))
	for i := range l {
		k := (i + 1) % len(l)
		out = append(out, api.Triangle{l[i], l[k], moved[k]}, api.Triangle{l[i], moved[k], moved[i]})
	}
	return out
}

// Box returns the box between two corners.
func Box(low, high api.Vector) (api.Solid, api.Errno) {
	size, e := vector.Sub(high, low)
	if e != api.OK {
		return nil, e
	}
	if !isPositive(size.X) || !isPositive(size.Y) || !isPositive(size.Z) {
		return nil, api.ErrRange
	}
	base := []api.Vector{low, {X: high.X, Y: low.Y, Z: low.Z}, {X: high.X, Y: high.Y, Z: low.Z}, {X: low.X, Y: high.Y, Z: low.Z}}
	return prism(base, api.Vector{X: "0", Y: "0", Z: size.Z}), api.OK
}

// isPositive reads the sign of a valid number from its text.
func isPositive(x api.Rat) bool { return x != "0" && !strings.HasPrefix(string(x), "-") }
