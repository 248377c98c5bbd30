package lever

import (
	"garboard/api"
	"garboard/attitude"
	"garboard/condition"
	"garboard/draft"
)

// ship is a craft in a condition in which it floats: both are right, and so is the number k of halvings.
type ship struct {
	craft  api.Craft
	loaded api.Condition
	volume api.Rat
	k      int
}

// check returns the errors ahead of those of the displaced volume.
func check(s api.Craft, c api.Condition, k int, attitudes ...api.Attitude) api.Errno {
	if e := condition.Check(s, c); e != api.OK {
		return e
	}
	if e := checkAttitudes(attitudes); e != api.OK {
		return e
	}
	if k < 0 || k > api.MaxHalvings {
		return api.ErrRange
	}
	return api.OK
}

// checkAttitudes looks at all of them for numbers that are not valid, which come ahead of those that are not in range.
func checkAttitudes(l []api.Attitude) api.Errno {
	worst := api.OK
	for _, a := range l {
		switch e := attitude.Check(a); e {
		case api.ErrArg:
			return e
		case api.ErrRange:
			worst = e
		}
	}
	return worst
}

// afloat returns the ship for a condition that is right. The only error is ErrRange: it weighs nothing, or more than all the water that the hull displaces.
func afloat(s api.Craft, c api.Condition, k int) (ship, api.Errno) {
	volume, e := condition.Displaced(s, c)
	return ship{s, c, volume, k}, e
}

// levers returns those at an attitude, by the bracket of the displaced volume.
func (x ship) levers(a api.Attitude) api.Lever {
	level := sure(draft.Level(x.craft.Hull, a, x.volume, x.k))
	return sure(x.leversBy(a, level))
}

// leversBy returns those by a level, or why the level is not right.
func (x ship) leversBy(a api.Attitude, level api.Interval) (api.Lever, api.Errno) {
	buoyancy, e := draft.Centre(x.craft.Hull, a, x.volume, level)
	if e != api.OK {
		return api.Lever{}, e
	}
	gravity := sure(condition.Centre(x.craft, x.loaded, a, x.k))
	return api.Lever{
		Heel:     a.Heel,
		Level:    level,
		Righting: less(buoyancy.Side, gravity.Side),
		Trimming: less(buoyancy.Ahead, gravity.Ahead),
		Height:   less(gravity.Up, buoyancy.Up),
	}, api.OK
}

func attitudesAt(heels []api.Rat, trim api.Rat) []api.Attitude {
	var out []api.Attitude
	for _, heel := range heels {
		out = append(out, api.Attitude{Heel: heel, Trim: trim})
	}
	return out
}

func each(l []api.Attitude, ask func(api.Attitude) api.Lever) []api.Lever {
	var out []api.Lever
	for _, a := range l {
		out = append(out, ask(a))
	}
	return out
}

// numbersOf returns all numbers of levers but the heel, which belongs to the attitude.
func numbersOf(l api.Lever) []api.Rat {
	return []api.Rat{l.Level.Lo, l.Level.Hi, l.Righting.Lo, l.Righting.Hi, l.Trimming.Lo, l.Trimming.Hi, l.Height.Lo, l.Height.Hi}
}
