package condition

import (
	"slices"

	"garboard/api"
	"garboard/ledger"
	"garboard/liquid"
)

// hullOf takes the hull as a tank that is full of the water around it: so it has the faults of a tank, in their order, but for those of its own name and permeability.
func hullOf(s api.Craft) api.Tank {
	return api.Tank{Name: "hull", Space: s.Hull, Permeability: "1", Density: s.Density}
}

func tanksOf(s api.Craft) map[string]api.Tank {
	out := map[string]api.Tank{}
	for _, t := range s.Tanks {
		out[t.Name] = t
	}
	return out
}

// check returns the first fault of a condition of a craft that is right.
func check(tanks map[string]api.Tank, c api.Condition) api.Errno {
	if e := ledger.Check(c.Weights); e != api.OK {
		return e
	}
	if len(c.Fillings) > api.MaxTanks {
		return api.ErrTooLarge
	}
	isFilled := map[string]bool{}
	for _, f := range c.Fillings {
		t, isThere := tanks[f.Tank]
		if !isThere {
			return api.ErrNotFound
		}
		if e := checkVolume(t, f.Volume); e != api.OK {
			return e
		}
		if isFilled[f.Tank] {
			return api.ErrTwice
		}
		isFilled[f.Tank] = true
	}
	return api.OK
}

// checkVolume returns what is wrong with a volume of liquid in a tank that is right: that is why it has no level.
func checkVolume(t api.Tank, volume api.Rat) api.Errno {
	_, e := liquid.Level(t, api.Attitude{Heel: "0", Trim: "0"}, volume, 0)
	return e
}

// find returns the index of the filling of a tank, or -1.
func find(l []api.Filling, tank string) int {
	return slices.IndexFunc(l, func(f api.Filling) bool { return f.Tank == tank })
}
