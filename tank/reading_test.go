package tank

import (
	"math/big"
	"math/rand"
	"testing"

	"garboard/api"
)

// P22.3: heights of soundings, between them, and at both ends; volumes can stay equal, and be negative.
func TestRead(t *testing.T) {
	for _, c := range []struct{ table, height, want string }{
		{"0:0 1:36 3:108", "2", "72"},
		{"0:0 1:36 3:108", "0", "0"},
		{"0:0 1:36 3:108", "1", "36"},
		{"0:0 1:36 3:108", "3", "108"},
		{"0:0 1:36 3:108", "1/3", "12"},
		{"-1:5 1/2:5 7/2:6", "-1/3", "5"},
		{"-1:5 1/2:5 7/2:6", "3/2", "16/3"},
		{"-5:-3 -4:-1", "-9/2", "-2"},
	} {
		if got, e := Read(soundings(c.table), api.Rat(c.height)); e != api.OK || got != api.Rat(c.want) {
			t.Errorf("%v: %s, %d", c, got, e)
		}
	}
}

// P22.3: the interval of all heights with a volume.
func TestHeight(t *testing.T) {
	for _, c := range []struct{ table, volume, low, high string }{
		{"0:0 1:36 3:108", "54", "3/2", "3/2"},
		{"0:0 1:36 3:108", "0", "0", "0"},
		{"0:0 1:36 3:108", "36", "1", "1"},
		{"0:0 1:36 3:108", "108", "3", "3"},
		{"0:5 2:5", "5", "0", "2"},
		{"0:5 2:5 3:5 4:6", "5", "0", "3"},
		{"0:0 2:5 3:5 4:5 5:9", "5", "2", "4"},
		{"0:0 2:5 3:5 4:5 5:9", "7", "9/2", "9/2"},
		{"0:0 2:5 3:5 4:5 5:9", "4", "8/5", "8/5"},
		{"-7:1 2:5 3:5 4:5", "5", "2", "4"},
		{"-3/7:-5 -1/3:-2 0:0", "-1", "-1/6", "-1/6"},
	} {
		if got, e := Height(soundings(c.table), api.Rat(c.volume)); e != api.OK || got != (api.Interval{Lo: api.Rat(c.low), Hi: api.Rat(c.high)}) {
			t.Errorf("%v: %v, %d", c, got, e)
		}
	}
}

// randomTable returns one in which about every third volume stays equal.
func randomTable(source *rand.Rand, length int) []api.Sounding {
	height, volume := big.NewRat(source.Int63n(99)-50, 7), big.NewRat(source.Int63n(99)-50, 11)
	var out []api.Sounding
	for range length {
		out = append(out, api.Sounding{Height: text(height), Volume: text(volume)})
		height = sum(height, big.NewRat(1+source.Int63n(9), 1+source.Int63n(5)))
		if source.Intn(3) > 0 {
			volume = sum(volume, big.NewRat(1+source.Int63n(1000), 1+source.Int63n(5)))
		}
	}
	return out
}

// places returns numbers before, at, between and behind some others.
func places(l []*big.Rat) []*big.Rat {
	one := big.NewRat(1, 1)
	out := []*big.Rat{difference(l[0], one), sum(l[len(l)-1], one), difference(l[0], big.NewRat(1, 1000000007)), sum(l[len(l)-1], big.NewRat(1, 1000000007))}
	for i, x := range l {
		out = append(out, x)
		if i > 0 {
			step := difference(x, l[i-1])
			out = append(out, sum(l[i-1], product(step, big.NewRat(1, 3))), sum(l[i-1], product(step, big.NewRat(999999, 1000000))))
		}
	}
	return out
}

func allOf(l []api.Sounding, of func(api.Sounding) api.Rat) []*big.Rat {
	var out []*big.Rat
	for _, x := range l {
		out = append(out, rat(of(x)))
	}
	return out
}

// P22.3, P22.4: tables of many lengths; heights and volumes that are read belong to each other.
func TestTablesOfManyLengths(t *testing.T) {
	source := rand.New(rand.NewSource(1))
	for _, length := range []int{2, 2, 2, 3, 3, 4, 5, 6, 7, 8, 9, 15, 16, 17, 40, api.MaxList} {
		l := randomTable(source, length)
		heights := places(allOf(l, func(x api.Sounding) api.Rat { return x.Height }))
		for _, height := range heights[:min(len(heights), 150)] {
			want, e := knownRead(l, height)
			got, f := Read(l, text(height))
			if got != want || e != f {
				t.Errorf("%v, %v: %s instead of %s, %d instead of %d", l, height, got, want, f, e)
			}
			if e == api.OK {
				back, e := Height(l, got)
				if e != api.OK || rat(back.Lo).Cmp(height) > 0 || rat(back.Hi).Cmp(height) < 0 {
					t.Errorf("%v, %v: the volume %s is at %v, %d", l, height, got, back, e)
				}
			}
		}
		volumes := places(allOf(l, func(x api.Sounding) api.Rat { return x.Volume }))
		for _, volume := range volumes[:min(len(volumes), 150)] {
			want, e := knownHeight(l, volume)
			got, f := Height(l, text(volume))
			if got != want || e != f {
				t.Errorf("%v, %v: %v instead of %v, %d instead of %d", l, volume, got, want, f, e)
			}
			if e == api.OK && (need[api.Rat](t)(Read(l, got.Lo)) != text(volume) || need[api.Rat](t)(Read(l, got.Hi)) != text(volume)) {
				t.Errorf("%v, %v: another volume is at %v", l, volume, got)
			}
		}
	}
}
