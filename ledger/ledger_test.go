package ledger

import (
	"math/big"
	"slices"
	"testing"

	"garboard/api"
)

// The chapter's examples.
func TestExamples(t *testing.T) {
	if e := Check(example()); e != api.OK {
		t.Errorf("the error %d", e)
	}
	if got := needTotal(t, example()); got != (sums{"40", point("230 10 70")}) {
		t.Errorf("the total %v", got)
	}
	if got := need[api.Vector](t)(Centre(example())); got != point("23/4 1/4 7/4") {
		t.Errorf("the centre %v", got)
	}
	for i, want := range []api.Rat{"24", "5"} {
		if got := need[api.Rat](t)(Aft(example()[i:i+1], "8")); got != want {
			t.Errorf("aft of 8: %s instead of %s", got, want)
		}
	}
	if got := need[api.Rat](t)(Aft(example(), "8")); got != "29" {
		t.Errorf("aft of 8: %s", got)
	}
}

// P24.1
func TestTotalAndCentre(t *testing.T) {
	for _, l := range lists() {
		want := knownTotal(l)
		if got := needTotal(t, l); got != want {
			t.Errorf("%v: %v instead of %v", l, got, want)
		}
		got, e := Centre(l)
		if want.mass == "0" {
			if got != (api.Vector{}) || e != api.ErrZero {
				t.Errorf("%v: the centre %v, %d", l, got, e)
			}
			continue
		}
		mass := rat(want.mass)
		centre := api.Vector{X: text(quotient(rat(want.moment.X), mass)), Y: text(quotient(rat(want.moment.Y), mass)), Z: text(quotient(rat(want.moment.Z), mass))}
		if got != centre || e != api.OK {
			t.Errorf("%v: the centre %v instead of %v, %d", l, got, centre, e)
		}
	}
}

// P24.1: without weights the sums are 0.
func TestNoWeights(t *testing.T) {
	for _, l := range [][]api.Weight{nil, {}} {
		if got := needTotal(t, l); got != (sums{"0", point("0 0 0")}) {
			t.Errorf("%v", got)
		}
		if got := need[api.Rat](t)(Aft(l, "7")); got != "0" {
			t.Errorf("%s", got)
		}
		if got := need[[]api.Weight](t)(Scale(l, "2")); len(got) > 0 {
			t.Errorf("%v", got)
		}
		if got := need[[]api.Weight](t)(Add(l, example()[0])); !slices.Equal(got, example()[:1]) {
			t.Errorf("%v", got)
		}
	}
}

// P24.2, P24.4: one more weight comes to the end, counts once, and can be removed.
func TestAddAndRemove(t *testing.T) {
	w := weights("new.-1 7/3 -1 2/7 -5 -3 1")[0]
	for _, l := range lists() {
		if len(l) == api.MaxWeights {
			continue
		}
		longer := need[[]api.Weight](t)(Add(l, w))
		if !slices.Equal(longer, append(slices.Clone(l), w)) {
			t.Errorf("%v with %v: %v", l, w, longer)
		}
		before, after := needTotal(t, l), needTotal(t, longer)
		if text(sum(rat(before.mass), big.NewRat(7, 3))) != after.mass || text(sum(rat(before.moment.Z), big.NewRat(-35, 3))) != after.moment.Z {
			t.Errorf("%v with %v: %v, and %v before", l, w, after, before)
		}
		if back := need[[]api.Weight](t)(Remove(longer, w.Name)); !slices.Equal(back, l) {
			t.Errorf("%v without %v: %v", longer, w, back)
		}
	}
}

// P24.2: of the other weights the order stays.
func TestRemove(t *testing.T) {
	for _, l := range lists() {
		for i, w := range l {
			want := append(slices.Clone(l[:i]), l[i+1:]...)
			got := need[[]api.Weight](t)(Remove(l, w.Name))
			if !slices.Equal(got, want) {
				t.Errorf("%v without %s: %v", l, w.Name, got)
			}
		}
	}
}

// P24.2: the list can be full before, and is not afterwards.
func TestFullList(t *testing.T) {
	l := lists()
	full := l[len(l)-1]
	if e := Check(full); len(full) != api.MaxWeights || e != api.OK {
		t.Fatalf("%d weights, %d", len(full), e)
	}
	less := need[[]api.Weight](t)(Remove(full, full[5].Name))
	again := need[[]api.Weight](t)(Add(less, full[5]))
	if len(again) != api.MaxWeights || needTotal(t, again) != needTotal(t, full) {
		t.Errorf("%v and %v", again, full)
	}
}

// P24.2, P24.4: a moved weight is right, the others stay as they are, and the moments change by its mass times the vector.
func TestMove(t *testing.T) {
	by := point("-5/3 2 1/7")
	for _, l := range lists() {
		for i, w := range l {
			got := need[[]api.Weight](t)(Move(l, w.Name, by))
			want := slices.Clone(l)
			want[i].From, want[i].To = text(sum(rat(w.From), rat(by.X))), text(sum(rat(w.To), rat(by.X)))
			want[i].Centre = api.Vector{X: text(sum(rat(w.Centre.X), rat(by.X))), Y: text(sum(rat(w.Centre.Y), rat(by.Y))), Z: text(sum(rat(w.Centre.Z), rat(by.Z)))}
			if !slices.Equal(got, want) || Check(got) != api.OK {
				t.Errorf("%v with %s moved: %v instead of %v", l, w.Name, got, want)
			}
			before, after := needTotal(t, l), needTotal(t, got)
			if after.mass != before.mass || after.moment.Y != text(sum(rat(before.moment.Y), product(rat(w.Mass), rat(by.Y)))) {
				t.Errorf("%v with %s moved: %v, and %v before", l, w.Name, after, before)
			}
		}
	}
}

// P24.2
func TestMoveOfTheExample(t *testing.T) {
	got := need[[]api.Weight](t)(Move(example(), "crane", point("-7 1/2 -1/3")))
	if !slices.Equal(got, weights("hull 30 5 0 1 0 10, crane 10 1 3/2 11/3 0 2")) {
		t.Errorf("%v", got)
	}
	if got := need[[]api.Weight](t)(Move(example(), "hull", point("0 0 0"))); !slices.Equal(got, example()) {
		t.Errorf("%v", got)
	}
}

// P24.2: factors less and greater than 1, and 0.
func TestScale(t *testing.T) {
	for _, l := range lists() {
		for _, factor := range []api.Rat{"0", "1", "2/3", "7", "1/1000000007", "100000000000000000000"} {
			want := slices.Clone(l)
			for i, w := range l {
				want[i].Mass = text(product(rat(w.Mass), rat(factor)))
			}
			got := need[[]api.Weight](t)(Scale(l, factor))
			if !slices.Equal(got, want) {
				t.Errorf("%v times %s: %v", l, factor, got)
			}
			if before := needTotal(t, l); needTotal(t, got).mass != text(product(rat(before.mass), rat(factor))) {
				t.Errorf("%v times %s: another mass", l, factor)
			}
		}
	}
}

// P24.3
func TestAft(t *testing.T) {
	for _, l := range lists() {
		for _, x := range places(l) {
			want := text(knownAft(l, x))
			if got := need[api.Rat](t)(Aft(l, text(x))); got != want {
				t.Errorf("%v aft of %v: %s instead of %s", l, x, got, want)
			}
		}
	}
}

// P24.3: at both ends, and beside them.
func TestEndsOfWeights(t *testing.T) {
	for _, c := range []struct{ x, want api.Rat }{
		{"-100", "0"}, {"0", "0"}, {"1/1000", "3/1000"}, {"7", "21"}, {"9", "37"}, {"10", "40"}, {"10000001/1000000", "40"}, {"17/2", "33"},
	} {
		if got := need[api.Rat](t)(Aft(example(), c.x)); got != c.want {
			t.Errorf("aft of %s: %s instead of %s", c.x, got, c.want)
		}
	}
}

// P24.4: the mass aft grows from 0 to the whole mass.
func TestAftGrows(t *testing.T) {
	for _, l := range lists() {
		x := places(l)
		slices.SortFunc(x, (*big.Rat).Cmp)
		before := new(big.Rat)
		for i, place := range x {
			mass := rat(need[api.Rat](t)(Aft(l, text(place))))
			if mass.Cmp(before) < 0 || i == 0 && mass.Sign() != 0 {
				t.Errorf("%v: %v aft of %v, and %v before", l, mass, place, before)
			}
			before = mass
		}
		if whole := needTotal(t, l).mass; text(before) != whole {
			t.Errorf("%v: %v is not %s", l, before, whole)
		}
	}
}

// P24.4: sums do not depend on the order.
func TestOrder(t *testing.T) {
	for _, l := range lists() {
		back := slices.Clone(l)
		slices.Reverse(back)
		if needTotal(t, l) != needTotal(t, back) {
			t.Errorf("%v and %v", l, back)
		}
		for _, x := range places(l) {
			if need[api.Rat](t)(Aft(l, text(x))) != need[api.Rat](t)(Aft(back, text(x))) {
				t.Errorf("aft of %v: %v and %v", x, l, back)
			}
		}
		middle := len(l) / 2
		first, second, whole := needTotal(t, l[:middle]), needTotal(t, l[middle:]), needTotal(t, l)
		if text(sum(rat(first.mass), rat(second.mass))) != whole.mass || text(sum(rat(first.moment.X), rat(second.moment.X))) != whole.moment.X {
			t.Errorf("%v and %v are not %v", first, second, whole)
		}
	}
}

// P24.4: moving a weight moves the common centre by its share.
func TestMovedCentre(t *testing.T) {
	before := need[api.Vector](t)(Centre(example()))
	after := need[api.Vector](t)(Centre(need[[]api.Weight](t)(Move(example(), "crane", point("4 -8 12")))))
	if before != point("23/4 1/4 7/4") || after != point("27/4 -7/4 19/4") {
		t.Errorf("%v and %v", before, after)
	}
}
