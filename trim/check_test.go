package trim

import (
	"math/big"
	"testing"

	"garboard/api"
)

// foundBalances returns those of trials that have one, for a few halvings.
func foundBalances(t *testing.T, see func(c trial, b api.Balance)) {
	t.Helper()
	count := 0
	for _, c := range trials(t) {
		if b, e := Balance(c.s, c.heel, c.volume, c.g, c.trims, c.k, 2); e == api.OK {
			count++
			see(c, b)
		}
	}
	if count < 8 {
		t.Errorf("only %d balances", count)
	}
}

// shifted returns a number that is greater by some other one.
func shifted(x api.Rat, by *big.Rat) api.Rat { return text(sum(rat(x), by)) }

// changed returns balances that differ from one by a number, or by both ends.
func changed(b api.Balance) []api.Balance {
	var out []api.Balance
	add := func(change func(*api.Balance)) {
		other := b
		change(&other)
		out = append(out, other)
	}
	for _, by := range []*big.Rat{big.NewRat(1, 1000000007), big.NewRat(-1, 1000000007), big.NewRat(1, 16), big.NewRat(-1, 16)} {
		add(func(o *api.Balance) { o.Lo = shifted(b.Lo, by) })
		add(func(o *api.Balance) { o.Hi = shifted(b.Hi, by) })
		add(func(o *api.Balance) { o.LoLevel.Lo = shifted(b.LoLevel.Lo, by) })
		add(func(o *api.Balance) { o.LoLevel.Hi = shifted(b.LoLevel.Hi, by) })
		add(func(o *api.Balance) { o.HiLevel.Lo = shifted(b.HiLevel.Lo, by) })
		add(func(o *api.Balance) { o.HiLevel.Hi = shifted(b.HiLevel.Hi, by) })
		add(func(o *api.Balance) { o.LoLever.Lo = shifted(b.LoLever.Lo, by) })
		add(func(o *api.Balance) { o.LoLever.Hi = shifted(b.LoLever.Hi, by) })
		add(func(o *api.Balance) { o.HiLever.Lo = shifted(b.HiLever.Lo, by) })
		add(func(o *api.Balance) { o.HiLever.Hi = shifted(b.HiLever.Hi, by) })
	}
	add(func(o *api.Balance) { o.Heel = "1/17" })
	add(func(o *api.Balance) { o.Lo, o.Hi = b.Hi, b.Lo })
	add(func(o *api.Balance) { o.Hi = b.Lo })
	add(func(o *api.Balance) { o.LoLever, o.HiLever = b.HiLever, b.LoLever })
	add(func(o *api.Balance) { o.LoLevel.Lo, o.LoLevel.Hi = b.LoLevel.Hi, b.LoLevel.Lo })
	add(func(o *api.Balance) { o.HiLever.Lo, o.HiLever.Hi = b.HiLever.Hi, b.HiLever.Lo })
	add(func(o *api.Balance) { *o = swapped(b) })
	add(func(o *api.Balance) { o.Lo, o.LoLevel, o.LoLever = b.Hi, b.HiLevel, b.HiLever })
	add(func(o *api.Balance) { o.Hi, o.HiLevel, o.HiLever = b.Lo, b.LoLevel, b.LoLever })
	return out
}

// swapped exchanges both ends.
func swapped(b api.Balance) api.Balance {
	return api.Balance{Heel: b.Heel, Lo: b.Hi, Hi: b.Lo, LoLevel: b.HiLevel, HiLevel: b.LoLevel, LoLever: b.HiLever, HiLever: b.LoLever}
}

func isFar(trim api.Rat) bool { return new(big.Rat).Abs(rat(trim)).Cmp(big.NewRat(1, 2)) > 0 }

// P21.2: balances that differ by a number are right if the definition says so, as those with a wider level alone are.
func TestChangedBalances(t *testing.T) {
	right := map[bool]int{}
	foundBalances(t, func(c trial, b api.Balance) {
		for i, other := range changed(b) {
			want := api.ErrProof
			if isFar(other.Lo) || isFar(other.Hi) {
				want = api.ErrRange
			} else if isRight(t, c.s, rat(c.volume), c.g, other) {
				want = api.OK
			}
			right[want == api.OK]++
			if got := Check(c.s, c.volume, c.g, other); got != want {
				t.Errorf("change %d of %v: %d instead of %d", i, b, got, want)
			}
		}
	})
	if right[true] < 20 || right[false] < 300 {
		t.Errorf("right and wrong balances: %v", right)
	}
}

// P21.2: any levels that are right do, with the levers by them.
func TestOtherLevels(t *testing.T) {
	right := map[bool]int{}
	foundBalances(t, func(c trial, b api.Balance) {
		for _, k := range []int{0, 1, 3, 11} {
			for _, down := range []*big.Rat{new(big.Rat), big.NewRat(-1, 1000), big.NewRat(-1, 3)} {
				other := b
				low, high := api.Attitude{Heel: b.Heel, Trim: b.Lo}, api.Attitude{Heel: b.Heel, Trim: b.Hi}
				other.LoLevel, other.HiLevel = knownLevel(t, c.s, low, rat(c.volume), k), knownLevel(t, c.s, high, rat(c.volume), k)
				other.LoLevel.Lo, other.HiLevel.Lo = shifted(other.LoLevel.Lo, down), shifted(other.HiLevel.Lo, down)
				other.LoLever = knownLever(t, c.s, low, rat(c.volume), c.g, other.LoLevel)
				other.HiLever = knownLever(t, c.s, high, rat(c.volume), c.g, other.HiLevel)
				want := api.ErrProof
				if isRight(t, c.s, rat(c.volume), c.g, other) {
					want = api.OK
				}
				right[want == api.OK]++
				if got := Check(c.s, c.volume, c.g, other); got != want {
					t.Errorf("%v: %d instead of %d", other, got, want)
				}
			}
		}
	})
	if right[true] < 20 || right[false] < 20 {
		t.Errorf("right and wrong balances: %v", right)
	}
}

// P21.2: of trims at which both signs are sure, but equal, and of trims at which one is not sure.
func TestSignsThatAreWrong(t *testing.T) {
	g := point("5 0 1")
	for _, c := range []struct {
		trims string
		want  api.Errno
	}{{"-1/8 1/8", api.OK}, {"1/16 1/8", api.ErrProof}, {"-1/8 -1/16", api.ErrProof}, {"-1/8 0", api.ErrProof}, {"0 1/8", api.ErrProof}, {"1/8 -1/8", api.ErrProof}, {"1/8 1/8", api.ErrProof}} {
		b := api.Balance{Heel: "0", Lo: pair(c.trims)[0], Hi: pair(c.trims)[1]}
		var e, f api.Errno
		b.LoLevel, b.LoLever, e = Lever(example(t), api.Attitude{Heel: "0", Trim: b.Lo}, "40", g, 9)
		b.HiLevel, b.HiLever, f = Lever(example(t), api.Attitude{Heel: "0", Trim: b.Hi}, "40", g, 9)
		if got := Check(example(t), "40", g, b); e != api.OK || f != api.OK || got != c.want {
			t.Errorf("%s: %d instead of %d", c.trims, got, c.want)
		}
	}
}

// P21.2: a lever that just ends at 0 is not sure. The box with the volume 60 at the trim 0 has an exact level, by which the lever is 0 exactly, or, by a lower one, reaches to 0.
func TestLeversThatEndAtZero(t *testing.T) {
	for _, c := range []struct {
		g, level, lever string
		want            api.Errno
	}{
		{"5 0 1", "3/2 3/2", "0 0", api.ErrProof},
		{"15/2 0 1", "3/4 3/2", "-5 0", api.ErrProof},
		{"750001/100000 0 1", "3/4 3/2", "-500001/100000 -1/100000", api.OK},
	} {
		b := api.Balance{Heel: "0", Lo: "0", Hi: "1/2", LoLevel: between(c.level), LoLever: between(c.lever)}
		var e api.Errno
		b.HiLevel, b.HiLever, e = Lever(example(t), at("0 1/2"), "60", point(c.g), 12)
		if got := Check(example(t), "60", point(c.g), b); e != api.OK || got != c.want {
			t.Errorf("%v: %v gives %d instead of %d", c, b, got, c.want)
		}
	}
}

// P21.2: more than the whole volume can be in the water if a part above counts negatively. No bracket is found for it, but balances can be right.
func TestVolumesAboveTheWhole(t *testing.T) {
	s, g, volume := underSlab(t), point("5 0 1"), api.Rat("115")
	b := api.Balance{Heel: "0", Lo: "-1/64", Hi: "1/64"}
	low, high := at("0 -1/64"), at("0 1/64")
	b.LoLevel, b.HiLevel = knownLevel(t, example(t), low, rat(volume), 16), knownLevel(t, example(t), high, rat(volume), 16)
	b.LoLever, b.HiLever = knownLever(t, s, low, rat(volume), g, b.LoLevel), knownLever(t, s, high, rat(volume), g, b.HiLevel)
	if e := Check(s, volume, g, b); e != api.OK || rat(volume).Cmp(wholeOf(t, s)) <= 0 {
		t.Errorf("%v: %d", b, e)
	}
	if got, e := Balance(s, "0", volume, g, pair("-1/64 1/64"), 16, 0); e != api.ErrRange || got != (api.Balance{}) {
		t.Errorf("%v, %d", got, e)
	}
}
