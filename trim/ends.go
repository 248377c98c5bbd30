package trim

import (
	"slices"

	"garboard/api"
)

// end is an end of a balance: a trim with a level, and the trimming lever by it.
type end struct {
	trim         api.Rat
	level, lever api.Interval
}

// numbers are those that come with the trim.
func (x end) numbers() []api.Rat {
	return []api.Rat{x.level.Lo, x.level.Hi, x.lever.Lo, x.lever.Hi}
}

func endsOf(b api.Balance) [2]end {
	return [2]end{{b.Lo, b.LoLevel, b.LoLever}, {b.Hi, b.HiLevel, b.HiLever}}
}

func balance(heel api.Rat, ends [2]end) api.Balance {
	low, high := ends[0], ends[1]
	return api.Balance{
		Heel: heel, Lo: low.trim, Hi: high.trim,
		LoLevel: low.level, HiLevel: high.level,
		LoLever: low.lever, HiLever: high.lever,
	}
}

// checkSigns returns what is wrong with the signs of the levers.
func checkSigns(ends [2]end) api.Errno {
	low, high := Sign(ends[0].lever), Sign(ends[1].lever)
	if low == 0 || high == 0 {
		return api.ErrUndecided
	}
	if low == high {
		return api.ErrMismatch
	}
	return api.OK
}

// halved halves n times between ends with opposite signs, and asks what is at each middle. A middle without a sure sign would be asked about again and again, so that it ends the halving.
func halved(ends [2]end, n int, ask func(trim api.Rat) end) [2]end {
	for range n {
		middle := ask(middleOf(ends[0].trim, ends[1].trim))
		i := slices.IndexFunc(ends[:], func(x end) bool { return Sign(x.lever) == Sign(middle.lever) })
		if i < 0 {
			break
		}
		ends[i] = middle
	}
	return ends
}
