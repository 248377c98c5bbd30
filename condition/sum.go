package condition

import (
	"garboard/api"
	"garboard/attitude"
	"garboard/ledger"
	"garboard/liquid"
)

// sum is the mass of what was added, with the enclosure of its centre in the coordinates of the water. There is none if the mass is 0.
type sum struct {
	api.Spot
	mass api.Rat
}

// sumOf returns that of weights, whose centre is exact.
func sumOf(l []api.Weight, a api.Attitude) sum {
	mass := total(l...)
	if mass == "0" {
		return sum{mass: mass}
	}
	centre := sure(attitude.Turn(a, sure(ledger.Centre(l))))
	return sum{between(centre, centre), mass}
}

// liquidIn returns that of the liquid in a tank, of which there is some.
func liquidIn(t api.Tank, f api.Filling, a api.Attitude, k int) sum {
	centre := liquid.Centre
	if f.Frozen {
		centre = liquid.Frozen
	}
	return sum{sure(centre(t, a, f.Volume, k)), massOf(t, f.Volume)}
}

// plus adds what has a mass. All coordinates are least at once, and greatest at once, because no mass is negative.
func (x sum) plus(y sum) sum {
	if x.mass == "0" {
		return y
	}
	var common [2]api.Vector
	from, to := x.corners(), y.corners()
	for i := range common {
		common[i] = sure(ledger.Centre([]api.Weight{
			lump("before", x.mass, from[i]),
			lump("new", y.mass, to[i]),
		}))
	}
	return sum{between(common[0], common[1]), together(x.mass, y.mass)}
}

// corners returns the points with the least coordinates, and with the greatest ones.
func (x sum) corners() [2]api.Vector {
	return [2]api.Vector{
		{X: x.Ahead.Lo, Y: x.Side.Lo, Z: x.Up.Lo},
		{X: x.Ahead.Hi, Y: x.Side.Hi, Z: x.Up.Hi},
	}
}

func between(low, high api.Vector) api.Spot {
	return api.Spot{
		Ahead: api.Interval{Lo: low.X, Hi: high.X},
		Side:  api.Interval{Lo: low.Y, Hi: high.Y},
		Up:    api.Interval{Lo: low.Z, Hi: high.Z},
	}
}

// The following functions take masses as weights, because this layer computes with the ledger.

func total(l ...api.Weight) api.Rat {
	mass, _, _ := ledger.Total(l)
	return mass
}

func together(x, y api.Rat) api.Rat {
	return total(lump("before", x, origin()), lump("new", y, origin()))
}

// massOf returns the mass of a volume of liquid.
func massOf(t api.Tank, volume api.Rat) api.Rat {
	water := []api.Weight{lump("water", volume, origin())}
	return total(sure(ledger.Scale(water, t.Density))...)
}

// lump returns a mass as a weight with a centre. It is moved there, so that both ends lie around it.
func lump(name string, mass api.Rat, centre api.Vector) api.Weight {
	l := []api.Weight{{Name: name, Mass: mass, Centre: origin(), From: "-1", To: "1"}}
	return sure(ledger.Move(l, name, centre))[0]
}

func origin() api.Vector { return api.Vector{X: "0", Y: "0", Z: "0"} }

// sure returns a result that comes without an error, because what it is computed from is valid.
func sure[T any](result T, _ api.Errno) T { return result }
