package liquid

import (
	"garboard/api"
	"garboard/attitude"
	"garboard/draft"
	"garboard/interval"
	"garboard/tank"
)

// part is the part of a space that liquid fills.
type part struct {
	space  api.Solid
	volume api.Rat
	isFull bool
}

// filled returns the part that a volume of liquid fills. Numbers that are not valid come ahead of an attitude that is not in range.
func filled(t api.Tank, a api.Attitude, volume api.Rat, k int) (part, api.Errno) {
	capacity, e := tank.Capacity(t)
	if e != api.OK {
		return part{}, e
	}
	inRange := attitude.Check(a)
	if inRange == api.ErrArg || !isNumber(volume) {
		return part{}, api.ErrArg
	}
	if inRange != api.OK || k < 0 || k > api.MaxHalvings || !interval.Has(api.Interval{Lo: "0", Hi: capacity}, volume) {
		return part{}, api.ErrRange
	}
	return part{t.Space, over(volume, t.Permeability), volume == capacity}, api.OK
}

// level returns the level of the volume. Nothing is halved for a tank that is full or empty, because its level is known exactly.
func (p part) level(a api.Attitude, k int) api.Interval {
	up := sure(attitude.Extent(p.space, a)).Up
	cases := [...]struct {
		applies bool
		level   func() api.Interval
	}{
		{p.isFull, func() api.Interval { return exact(up.Hi) }},
		{p.volume == "0", func() api.Interval { return exact(up.Lo) }},
		{true, func() api.Interval { return sure(draft.Level(p.space, a, p.volume, k)) }},
	}
	i := 0
	for !cases[i].applies {
		i++
	}
	return cases[i].level()
}

func (p part) centre(a api.Attitude, k int) (api.Spot, api.Errno) {
	return draft.Centre(p.space, a, p.volume, p.level(a, k))
}

func upright() api.Attitude { return api.Attitude{Heel: "0", Trim: "0"} }
