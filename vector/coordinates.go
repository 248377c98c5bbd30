package vector

import "garboard/api"

// coordinates are those of a vector. Among them may be numbers that are not valid: of what is computed from these "" is a coordinate.
type coordinates [3]api.Rat

// spatial is a vector whose coordinates can be gone through.
type spatial struct{ api.Vector }

func (s spatial) coordinates() coordinates { return coordinates{s.X, s.Y, s.Z} }

func read(a api.Vector) coordinates { return spatial{a}.coordinates() }

func zero() coordinates { return coordinates{"0", "0", "0"} }

// checked returns the vector, or the error of a result that has no valid coordinates.
func (c coordinates) checked() (api.Vector, api.Errno) {
	for _, x := range c {
		if x == "" {
			return api.Vector{}, api.ErrArg
		}
	}
	return api.Vector{X: c[0], Y: c[1], Z: c[2]}, api.OK
}

func combine(a, b coordinates, operation func(x, y api.Rat) api.Rat) coordinates {
	var out coordinates
	for i := range out {
		out[i] = operation(a[i], b[i])
	}
	return out
}

func scaled(a coordinates, x api.Rat) coordinates { return combine(a, coordinates{x, x, x}, times) }

func dot(a, b coordinates) api.Rat {
	products := combine(a, b, times)
	return plus(plus(products[0], products[1]), products[2])
}

func cross(a, b coordinates) coordinates {
	var out coordinates
	for i := range out {
		k, l := (i+1)%len(out), (i+2)%len(out)
		out[i] = minus(times(a[k], b[l]), times(a[l], b[k]))
	}
	return out
}
