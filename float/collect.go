package float

import (
	"garboard/api"
	"garboard/attitude"
	"garboard/clip"
	"garboard/mass"
	"garboard/vector"
)

// collected returns what a function collects from a solid and the plane of the water. It asks for the errors that come ahead of an open solid itself, because the layers below look for them in another order.
func collected[T any](s api.Solid, a api.Attitude, d api.Rat, collect func(api.Solid, api.Plane) (T, api.Errno)) (T, api.Errno) {
	var none T
	if len(s) == 0 {
		return none, api.ErrEmpty
	}
	if len(s) > api.MaxTriangles {
		return none, api.ErrTooLarge
	}
	if !areValid(s) {
		return none, api.ErrArg
	}
	water, e := attitude.Water(a, d)
	if e != api.OK {
		return none, e
	}
	return collect(s, water)
}

func areValid(s api.Solid) bool {
	for _, t := range s {
		for _, r := range t {
			if !vector.Valid(r) {
				return false
			}
		}
	}
	return true
}

// volumeBelow cuts the part off and takes its volume alone, because all integrals together take several times as long. There is no limit to the part: one with too many triangles for a solid is left to mass.Below.
func volumeBelow(s api.Solid, water api.Plane) (api.Rat, api.Errno) {
	part, e := clip.Below(s, water)
	switch e {
	case api.OK:
		return mass.Volume(part)
	case api.ErrTooLarge:
		m, e := mass.Below(s, water)
		return m.Volume, e
	}
	return "", e
}

// difference takes numbers as coordinates, because this layer computes with vectors.
func difference(x, y api.Rat) api.Rat {
	out, _ := vector.Sub(api.Vector{X: x, Y: "0", Z: "0"}, api.Vector{X: y, Y: "0", Z: "0"})
	return out.X
}
