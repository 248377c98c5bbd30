package bonjean

import (
	"slices"

	"garboard/api"
	"garboard/attitude"
	"garboard/clip"
)

// surface returns the plane of the water. Its errors are those of a volume, with some other numbers among those that are checked.
func surface(s api.Solid, a api.Attitude, d api.Rat, others ...api.Rat) (api.Plane, api.Errno) {
	if e := check(s, a, slices.Concat(others, []api.Rat{d})...); e != api.OK {
		return api.Plane{}, e
	}
	water, _ := attitude.Water(a, d)
	if _, e := clip.Section(s, water); e != api.OK {
		return api.Plane{}, e
	}
	return water, api.OK
}

// check returns the errors ahead of an open solid. The extent has them all, but numbers that are not valid come ahead of an attitude that is not in range.
func check(s api.Solid, a api.Attitude, numbers ...api.Rat) api.Errno {
	_, e := attitude.Extent(s, a)
	if (e == api.OK || e == api.ErrRange) && !areNumbers(numbers) {
		return api.ErrArg
	}
	return e
}

// checkTable returns the errors of a table: too many stations come behind no triangles, and ahead of all others.
func checkTable(s api.Solid, xs, levels []api.Rat) api.Errno {
	e := check(s, upright(), slices.Concat(xs, levels)...)
	if e != api.ErrEmpty && max(len(xs), len(levels)) > api.MaxStations {
		return api.ErrTooLarge
	}
	if e != api.OK {
		return e
	}
	if !doIncrease(xs) || !doIncrease(levels) {
		return api.ErrOrder
	}
	_, e = surface(s, upright(), "0")
	return e
}

func doIncrease(l []api.Rat) bool {
	for i := 1; i < len(l); i++ {
		if order(l[i-1], l[i]) >= 0 {
			return false
		}
	}
	return true
}
