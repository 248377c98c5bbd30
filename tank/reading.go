package tank

import (
	"sort"

	"garboard/api"
)

// leastSoundings is how many soundings a table needs.
const leastSoundings = 2

// Read returns the volume at a height by a table.
func Read(l []api.Sounding, height api.Rat) (api.Rat, api.Errno) {
	if !isTable(l) || !areNumbers(height) {
		return "", api.ErrArg
	}
	if isLess(height, l[0].Height) || isLess(l[len(l)-1].Height, height) {
		return "", api.ErrRange
	}
	i := sort.Search(len(l), func(i int) bool { return !isLess(l[i].Height, height) })
	if l[i].Height == height {
		return l[i].Volume, api.OK
	}
	low, high := l[i-1], l[i]
	return between(low.Volume, high.Volume, share(low.Height, high.Height, height)), api.OK
}

// Height returns the heights at which there is a volume by a table. They reach from the first sounding with this volume to the last one; if no sounding has it, there is one height between two of them.
func Height(l []api.Sounding, volume api.Rat) (api.Interval, api.Errno) {
	if !isTable(l) || !areNumbers(volume) {
		return api.Interval{}, api.ErrArg
	}
	if isLess(volume, l[0].Volume) || isLess(l[len(l)-1].Volume, volume) {
		return api.Interval{}, api.ErrRange
	}
	first := sort.Search(len(l), func(i int) bool { return !isLess(l[i].Volume, volume) })
	behind := sort.Search(len(l), func(i int) bool { return isLess(volume, l[i].Volume) })
	if first < behind {
		return api.Interval{Lo: l[first].Height, Hi: l[behind-1].Height}, api.OK
	}
	low, high := l[first-1], l[first]
	height := between(low.Height, high.Height, share(low.Volume, high.Volume, volume))
	return api.Interval{Lo: height, Hi: height}, api.OK
}

func isTable(l []api.Sounding) bool {
	if len(l) < leastSoundings || len(l) > api.MaxList {
		return false
	}
	for i, x := range l {
		if !areNumbers(x.Height, x.Volume) {
			return false
		}
		if i > 0 && (!isLess(l[i-1].Height, x.Height) || isLess(x.Volume, l[i-1].Volume)) {
			return false
		}
	}
	return true
}

// share returns at which part of the way from one number to another one a number lies.
func share(from, to, x api.Rat) api.Rat { return over(minus(x, from), minus(to, from)) }

// between returns what lies at a part of the way from one number to another one.
func between(from, to, part api.Rat) api.Rat { return plus(from, times(minus(to, from), part)) }
